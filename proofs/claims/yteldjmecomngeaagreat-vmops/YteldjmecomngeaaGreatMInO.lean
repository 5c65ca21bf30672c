import Derived.Test.YteldjmecomngeaaGreatMOps
import Derived.Deep.RegionHeld
namespace Go.Proofs.YteldjmecomngeaaGreat.M
open Go.RowKit
open Go.Proofs
set_option linter.unusedVariables false
set_option linter.unusedSimpArgs false
structure OI (W : World) (B : Nat) (v : Value) (bs : List (Int × List UInt8)) (gs : List (Nat × Nat)) : Prop where
 len : gs.length = bs.length
 row : W.ownsRow B 81 2 v bs.length (bcs bs gs)
 dat : ∀ (i : Nat) (t : Int × List UInt8) (g : Nat × Nat), bs[i]? = some t -> gs[i]? = some g -> Row W B (.slice (some ⟨g.1, 0, none⟩) t.2.length g.2) t.2
 nd : (gs.map Prod.fst).Nodup
theorem OI.ex {W : World} {B : Nat} {v : Value} {bs : List (Int × List UInt8)} {gs : List (Nat × Nat)} (h : OI W B v bs gs) (hl : ∀ t ∈ bs, t.2.length <= room) : ∃ p c, v = .slice p bs.length c /\ BnS W p bs := by
 rcases h.row.2 with ⟨rfl, e⟩ | ⟨g, cap, cur, rfl, _⟩
 ·have : bs = [] := List.eq_nil_of_length_eq_zero e
  subst this
  exact ⟨none, 0, rfl, fun i t ht => by simp at ht⟩
 ·refine ⟨_, cap, rfl, fun i t ht => ?_⟩
  have hi := (List.getElem?_eq_some_iff.1 ht).1
  have hig : i < gs.length := by rw [h.len]; exact hi
  have hg : gs[i]? = some gs[i] := List.getElem?_eq_getElem hig
  obtain ⟨k1, k2⟩ := bcs_get bs gs i t _ ht hg
  have c1 := World.ownsRow.cells h.row (g := g) rfl _ _ k1
  have c2 := World.ownsRow.cells h.row (g := g) rfl _ _ k2
  rw [Addr.add_lit] at c1 c2
  refine ⟨g, 0, _, rfl, c1, c2, Row.sl (h.dat i t _ ht hg), hl t (List.mem_of_getElem? ht)⟩
theorem OI.kept {W W' : World} {B : Nat} {v : Value} {bs : List (Int × List UInt8)} {gs : List (Nat × Nat)} (h : OI W B v bs gs) (k : ∀ i, B <= i -> i < W.heap.size -> W'.heap[i]? = W.heap[i]?) : OI W' B v bs gs :=
 ⟨h.len, own_kept h.row fun g e hg => k g (h.row.lt g e).1 hg, fun i t g h1 h2 => own_kept (h.dat i t g h1 h2) fun x e hg => k x ((h.dat i t g h1 h2).lt x e).1 hg, h.nd⟩
theorem OI.below {W W' : World} {B : Nat} {v : Value} {bs : List (Int × List UInt8)} {gs : List (Nat × Nat)} (h : OI W B v bs gs) (k : Below W.heap.size W W') : OI W' B v bs gs := h.kept fun i _ hi => k.block i hi
theorem OI.snoc {W W1 W2 : World} {B : Nat} {v v' : Value} {bs : List (Int × List UInt8)} {gs : List (Nat × Nat)} (h : OI W B v bs gs) (hB : B <= W.heap.size) (t : Int × List UInt8) (g c : Nat) (hb : Below W.heap.size W W1)
  (hd : Row W1 W.heap.size (.slice (some ⟨g, 0, none⟩) t.2.length c) t.2) (hg : Grew W1 W2 v v') (hr : W2.ownsRow B 81 2 v' (bs.length + 1) (bcs bs gs ++ bc t (g, c))) :
  OI W2 B v' (bs ++ [t]) (gs ++ [(g, c)]) := by
 have hlt : ∀ (i : Nat) (x : Int × List UInt8) (y : Nat × Nat), bs[i]? = some x -> gs[i]? = some y -> y.1 < W.heap.size := fun i x y h1 h2 => ((h.dat i x y h1 h2).lt y.1 rfl).2
 have hmem : ∀ y ∈ gs, y.1 < W.heap.size := by
  intro y hy
  obtain ⟨i, hi, e⟩ := List.mem_iff_getElem.1 hy
  have hb' : i < bs.length := by rw [<- h.len]; exact hi
  exact hlt i bs[i] y (List.getElem?_eq_getElem hb') (by rw [List.getElem?_eq_getElem hi, e])
 have hgw : W.heap.size <= g := (hd.lt g rfl).1
 have nv : ∀ k cur, W1.heap[k]? = some (.cells cur 5 (0, 0)) -> some k ≠ v.ownBlock := by
  intro k cur e1 e2
  obtain ⟨cur2, e3⟩ := own_block h.row k e2.symm
  have := (hb.block k (lt_of e3)).trans e3
  rw [e1] at this
  simp at this
 have kp : ∀ {x : Value} {n xs}, W1.ownsRow B 5 1 x n xs -> W2.ownsRow B 5 1 x n xs := fun hx => own_kept hx fun k e hk => by
  obtain ⟨cur, e1⟩ := own_block hx k e
  exact hg.block k hk (nv k cur e1)
 refine ⟨by simp [h.len], ?_, ?_, ?_⟩
 ·rw [bcs_snoc bs gs t (g, c) h.len, List.length_append]; exact hr
 ·intro i x y h1 h2
  by_cases hi : i < bs.length
  ·rw [List.getElem?_append_left hi] at h1
   rw [List.getElem?_append_left (by rw [h.len]; exact hi)] at h2
   exact kp (Row.below (h.dat i x y h1 h2) hb)
  ·rw [List.getElem?_append_right (by omega)] at h1
   rw [List.getElem?_append_right (by rw [h.len]; omega)] at h2
   have e0 : i - bs.length = 0 := by
    have := (List.getElem?_eq_some_iff.1 h1).1; simp at this; omega
   rw [e0] at h1; rw [h.len, e0] at h2
   simp at h1 h2; subst h1 h2
   exact kp (Row.mono hd hB)
 ·rw [List.map_append, List.nodup_append]
  refine ⟨h.nd, by simp, ?_⟩
  intro a ha b hb' e
  simp at hb'
  simp only [List.mem_map] at ha
  obtain ⟨y, hy, rfl⟩ := ha
  have := hmem y hy
  omega
def inO (m : MS) (k : Nat) : List (Int × List UInt8) := (List.range k).filterMap fun n => (m.banks n).map fun l => ((n : Int), l)
theorem inO_none (m : MS) (k : Nat) (h : m.banks k = none) : inO m (k + 1) = inO m k := by simp [inO, List.range_succ, List.filterMap_append, h]
theorem inO_some (m : MS) (k : Nat) (l : List UInt8) (h : m.banks k = some l) : inO m (k + 1) = inO m k ++ [((k : Int), l)] := by simp [inO, List.range_succ, List.filterMap_append, h]
theorem inO_len (m : MS) (k : Nat) : (inO m k).length <= k := by
 have := List.length_filterMap_le (fun n => (m.banks n).map fun l => ((n : Int), l)) (List.range k)
 simpa [inO] using this
set_option maxHeartbeats 2000000
set_option maxRecDepth 100000
theorem inOrder_any (b : Nat) (w : World) {F : Nat -> Prop} {m : MS} (hm : HasM w F b m) :
  Calls Tryz.prog 57 #[.pointer (some ⟨b, 0, none⟩)] w fun e w' => ∃ u gs, e = .returned u /\ OI w' w.heap.size u (inO m 16) gs /\ Below w.heap.size w w' := by
 go_enter Tryz.func57, Tryz.ntmps57
 go_wp2
 go_loopw [3, 6] (fun v i wr => ∃ (k : Nat) (gs : List (Nat × Nat)), k <= 16 /\ i = .int .i64 (k : Int) /\ OI wr w.heap.size v (inO m k) gs /\ Below w.heap.size w wr) (fun _ i _ => 16 - (intOf i).toNat)
 case atStart => exact ⟨0, [], by omega, rfl, ⟨rfl, World.ownsRow_nil _ _ _ _, fun i t g h1 _ => by simp [inO] at h1, by simp⟩, Below.refl _ _⟩
 case round =>
  obtain ⟨k, gs, hk, rfl, hO, hB⟩ := hrel
  by_cases hlt : k < 16
  ·have i1 : (k : Int) < 16 := by omega
   obtain ⟨mb, L, tv, hm2⟩ := hm.below hB
   have cb := cell_of wr b 0 _ 146 _ hm2.blk (mcells_0 mb m tv)
   cases hbk : m.banks k with
   | none =>
    have hlk := look_none wr mb k L hm2.map (by rintro p hp rfl; obtain ⟨l, e2, _⟩ := hm2.bks p hp; rw [hbk] at e2; cases e2)
    have hO2 : OI wr w.heap.size u3 (inO m (k + 1)) gs := by rw [inO_none m k hbk]; exact hO
    have HO2 : Hid _ := hO2
    have HB : Hid _ := hB
    clear hO hO2 hm2 hB hbk
    go_wp2
    go_roundw
    case rel =>
     first
      | exact ⟨k + 1, _, by omega, by go_num, HO2.out, HB.out⟩
      | ((repeat apply Exists.intro); refine ⟨⟨k + 1, _, by omega, ?_, HO2.out, HB.out⟩, rfl⟩; go_num)
    case measure => simp [intOf]; omega
   | some l =>
    obtain ⟨g, hg⟩ := hm2.all _ _ hbk
    obtain ⟨l', e2, hkk⟩ := hm2.bks _ hg
    rw [hbk] at e2; cases e2
    have hlk := look_some wr mb k g L hm2.map hm2.keys hg
    have hl := (hm2.wf.bk _ _ hbk).2
    have hsl : Sl wr (.slice (some ⟨g, 0, none⟩) 16384 16384) l := by
     refine .inr ⟨⟨g, 0, none⟩, 16384, by rw [hl], by rw [hl]; omega, fun j x hj => ?_⟩
     rw [Addr.add_lit, Nat.zero_add]
     exact cell_of wr g _ _ 143 _ hkk ((bv_get l _ _).2 ⟨x, hj, rfl⟩)
    have hcl := clone_any _ l (by rw [hl]; unfold room; omega) wr hsl
    have hin := inO_some m k l hbk
    have hlen := inO_len m k
    clear hm2 hsl hkk hg hbk
    go_wp2_with fail
    refine hcl.mono ?_
    rintro e w2 ⟨u, rfl, hu, hb2⟩
    obtain ⟨g2, cap, rfl⟩ := own_pos hu (by omega)
    have hB4 : Below w.heap.size w w2 := hB.trans (hb2.mono hB.size)
    obtain ⟨W1, hW1⟩ : ∃ W1, W1 = w2.alloc (.cells #[.int .i64 (k : Int), .slice (some ⟨g2, 0, none⟩) l.length cap] 81) := ⟨_, rfl⟩
    have hbl : Below wr.heap.size wr W1 := by rw [hW1]; exact hb2.alloc hb2.size _
    have hown : (w2.alloc (.cells #[.int .i64 (k : Int), .slice (some ⟨g2, 0, none⟩) l.length cap] 81)).ownsRow w.heap.size 81 2 u3 (inO m k).length (bcs (inO m k) gs) := by
     rw [<- hW1]; exact own_kept hO.row fun x e hx => hbl.block x hx
    have hcs : Cs (w2.alloc (.cells #[.int .i64 (k : Int), .slice (some ⟨g2, 0, none⟩) l.length cap] 81)) (.slice (some ⟨w2.heap.size, 0, none⟩) 1 1) 2 1 (bc ((k : Int), l) (g2, cap)) := by
     refine .inr ⟨⟨w2.heap.size, 0, none⟩, 1, rfl, rfl, ?_, by intro x hx; simp [bc] at hx; rcases hx with rfl | rfl <;> rfl⟩
     intro j x hj
     have hn : (w2.alloc (.cells #[.int .i64 (k : Int), .slice (some ⟨g2, 0, none⟩) l.length cap] 81)).heap[w2.heap.size]? = some (.cells (bc ((k : Int), l) (g2, cap)).toArray 81 (0, 0)) := heap_alloc_new w2 _
     have e : (⟨w2.heap.size, 0, none⟩ : Addr).add j = ⟨w2.heap.size, j, none⟩ := by rw [Addr.add_lit]; simp
     rw [e]
     exact cell_of _ _ _ _ 81 x hn hj
    have b1 : ((inO m k).length + 1) * 32 <= room := by unfold room; omega
    have b2 : (inO m k).length + 1 <= maxLen := by unfold maxLen; omega
    have hwz : w.heap.size <= (w2.alloc (.cells #[.int .i64 (k : Int), .slice (some ⟨g2, 0, none⟩) l.length cap] 81)).heap.size := by have := hB4.size; simp; omega
    have hend : ∀ v' w4, w4.ownsRow w.heap.size 81 2 v' ((inO m k).length + 1) (bcs (inO m k) gs ++ bc ((k : Int), l) (g2, cap)) -> Grew (w2.alloc (.cells #[.int .i64 (k : Int), .slice (some ⟨g2, 0, none⟩) l.length cap] 81)) w4 u3 v' ->
      OI w4 w.heap.size v' (inO m (k + 1)) (gs ++ [(g2, cap)]) /\ Below w.heap.size w w4 := by
     intro v' w4 ho hg
     rw [<- hW1] at hg
     rw [hin]
     have hr4 : Row W1 wr.heap.size (.slice (some ⟨g2, 0, none⟩) l.length cap) l := by
      rw [hW1]; exact Row.below hu ((Below.refl _ _).alloc (Nat.le_refl _) _)
     refine ⟨hO.snoc hB.size ((k : Int), l) g2 cap hbl hr4 hg ho, ?_⟩
     refine hg.belowAll (fun x e => (hO.row.lt x e).1) (N := w.heap.size) (W0 := w) ?_ (Nat.le_refl _)
     rw [hW1]; exact hB4.alloc hB4.size _
    have HE : Hid _ := hend
    clear hW1 hbl hend hO hB hB4 hin hu hb2 hlen hl
    go_wp2_with (first | (at_builtin; refine wpList_append_row _ rfl _ _ 25 81 _ 2 32 Tryz.underlying25 info37 rfl (by decide) rfl w.heap.size _ _ _ rfl hown _ 1 (bc ((k : Int), l) (g2, cap)) rfl hcs b1 b2 hwz ?_))
    intro v' w4 ho hg
    obtain ⟨hO2, hB2⟩ := HE.out v' w4 ho hg
    have HO2 : Hid _ := hO2
    have HB2 : Hid _ := hB2
    clear hO2 hB2 ho hg hown hcs HE
    go_wp2
    go_roundw
    case rel =>
     first
      | exact ⟨k + 1, _, by omega, by go_num, HO2.out, HB2.out⟩
      | ((repeat apply Exists.intro); refine ⟨⟨k + 1, _, by omega, ?_, HO2.out, HB2.out⟩, rfl⟩; go_num)
    case measure => simp [intOf]; omega
  ·obtain rfl : k = 16 := by omega
   go_wp2
   go_ret
   exact ⟨_, _, rfl, hO, hB⟩
structure ImO (W : World) (B : Nat) (u rv sv : Value) (bs : List (Int × List UInt8)) (ram scr : List UInt8) (gs : List (Nat × Nat)) (N1 N2 : Nat) : Prop where
 banks : OI W B u bs gs
 ram : Row W N1 rv ram
 scr : Row W N2 sv scr
 b1 : B <= N1
 g1 : ∀ y ∈ gs, y.1 < N1
 o1 : ∀ g, u.ownBlock = some g -> g < N1
 r1 : ∀ g, rv.ownBlock = some g -> g < N2
 n12 : N1 <= N2
theorem OI.mem_lt {W : World} {B : Nat} {v : Value} {bs : List (Int × List UInt8)} {gs : List (Nat × Nat)} (h : OI W B v bs gs) (y : Nat × Nat) (hy : y ∈ gs) : y.1 < W.heap.size := by
 obtain ⟨i, hi, e⟩ := List.mem_iff_getElem.1 hy
 have hb' : i < bs.length := by rw [<- h.len]; exact hi
 exact ((h.dat i bs[i] y (List.getElem?_eq_getElem hb') (by rw [List.getElem?_eq_getElem hi, e])).lt y.1 rfl).2
theorem cell_far (W : World) (N i : Nat) (v : Value) (b j : Nat) (h : b ≠ N) : (W.setCell ⟨N, i, none⟩ v).cell? ⟨b, j, none⟩ = W.cell? ⟨b, j, none⟩ :=
 World.cell?_of_block (w := W) (setCell_other W N i b v h)
theorem own_form {w : World} {B : Nat} {e : TypeId} {size : Nat} {v : Value} {n : Nat} {xs : List Value} (h : w.ownsRow B e size v n xs) : ∃ p cap, v = .slice p n cap := by
 rcases h.2 with ⟨h, e⟩ | ⟨g, cap, cur, h1, _⟩
 ·exact ⟨none, 0, by rw [h, e]⟩
 ·exact ⟨_, cap, h1⟩
def imgC (u rv sv : Value) (m : MS) : List Value := [u, rv, sv, .int .u8 m.ch, .int .u8 m.pad, .int .u16 m.pitch, .int .u8 m.vol, .int .u16 m.time]
def st8 (W : World) (N : Nat) (u rv sv : Value) (m : MS) : World :=
 (((((((W.setCell ⟨N, 0, none⟩ u).setCell ⟨N, 1, none⟩ rv).setCell ⟨N, 2, none⟩ sv).setCell ⟨N, 3, none⟩ (.int .u8 m.ch)).setCell ⟨N, 4, none⟩ (.int .u8 m.pad)).setCell ⟨N, 5, none⟩ (.int .u16 m.pitch)).setCell ⟨N, 6, none⟩ (.int .u8 m.vol)).setCell ⟨N, 7, none⟩ (.int .u16 m.time)
theorem st8_heap (W : World) (N : Nat) (u rv sv : Value) (m : MS) (c : List Value) (t : TypeId) (hc : c.length = 8) (h : W.heap[N]? = some (.cells c.toArray t (0, 0))) : (st8 W N u rv sv m).heap[N]? = some (.cells (imgC u rv sv m).toArray t (0, 0)) := by
 unfold st8
 match c, hc with
 | [a0, a1, a2, a3, a4, a5, a6, a7], _ =>
  have h1 := setCell_heap _ _ 0 _ _ u h
  have h2 := setCell_heap _ _ 1 _ _ rv h1
  have h3 := setCell_heap _ _ 2 _ _ sv h2
  have h4 := setCell_heap _ _ 3 _ _ (.int .u8 m.ch) h3
  have h5 := setCell_heap _ _ 4 _ _ (.int .u8 m.pad) h4
  have h6 := setCell_heap _ _ 5 _ _ (.int .u16 m.pitch) h5
  have h7 := setCell_heap _ _ 6 _ _ (.int .u8 m.vol) h6
  have h8 := setCell_heap _ _ 7 _ _ (.int .u16 m.time) h7
  rw [h8]; rfl
theorem st8_other (W : World) (N k : Nat) (u rv sv : Value) (m : MS) (h : k ≠ N) : (st8 W N u rv sv m).heap[k]? = W.heap[k]? := by
 unfold st8
 simp only [setCell_other _ N _ k _ h]
theorem st8_size (W : World) (N : Nat) (u rv sv : Value) (m : MS) : (st8 W N u rv sv m).heap.size = W.heap.size := by
 unfold st8; simp only [setCell_size]
theorem st8_below (W : World) (N : Nat) (u rv sv : Value) (m : MS) {B : Nat} {W0 : World} (h : Below B W0 W) (hN : B <= N) : Below B W0 (st8 W N u rv sv m) :=
 have e1 : ∀ (W : World) a v, (W.setCell a v).os = W.os := fun _ _ _ => rfl
 have e2 : ∀ (W : World) a v, (W.setCell a v).tape = W.tape := fun _ _ _ => rfl
 have e3 : ∀ (W : World) a v, (W.setCell a v).output = W.output := fun _ _ _ => rfl
 ⟨by simp only [st8, e1]; exact h.os, by simp only [st8, e2]; exact h.tape, by simp only [st8, e3]; exact h.output, by rw [st8_size]; exact h.size, fun k hk => (st8_other W N k u rv sv m (by omega)).trans (h.block k hk)⟩
theorem image_end (w w1 w2 w3 w4 : World) (m : MS) (p2 : Option Addr) (cp2 g3 cp3 g4 cp4 : Nat) (gs : List (Nat × Nat)) (hb1 : Below w.heap.size w w1) (hz1 : w1.heap.size = w.heap.size + 1)
  (hb2 : Below w1.drew.heap.size w1.drew w2) (hb3 : Below w2.heap.size w2 w3) (hb4 : Below w3.heap.size w3 w4) (hO2 : OI w2 w1.drew.heap.size (.slice p2 (inO m 16).length cp2) (inO m 16) gs)
  (hO3 : Row w3 w2.heap.size (.slice (some ⟨g3, 0, none⟩) m.ram.length cp3) m.ram) (hO4 : Row w4 w3.heap.size (.slice (some ⟨g4, 0, none⟩) m.scr.length cp4) m.scr)
  (hr1 : w1.heap[w.heap.size]? = some (.cells [.slice none 0 0, .slice none 0 0, .slice none 0 0, .int .u8 0, .int .u8 0, .int .u16 0, .int .u8 0, .int .u16 0].toArray 71 (0, 0))) :
  (st8 w4 w.heap.size (.slice p2 (inO m 16).length cp2) (.slice (some ⟨g3, 0, none⟩) m.ram.length cp3) (.slice (some ⟨g4, 0, none⟩) m.scr.length cp4) m).heap[w.heap.size]? = some (.cells (imgC (.slice p2 (inO m 16).length cp2) (.slice (some ⟨g3, 0, none⟩) m.ram.length cp3) (.slice (some ⟨g4, 0, none⟩) m.scr.length cp4) m).toArray 71 (0, 0)) /\
  ImO (st8 w4 w.heap.size (.slice p2 (inO m 16).length cp2) (.slice (some ⟨g3, 0, none⟩) m.ram.length cp3) (.slice (some ⟨g4, 0, none⟩) m.scr.length cp4) m) w.heap.size (.slice p2 (inO m 16).length cp2) (.slice (some ⟨g3, 0, none⟩) m.ram.length cp3) (.slice (some ⟨g4, 0, none⟩) m.scr.length cp4) (inO m 16) m.ram m.scr gs w2.heap.size w3.heap.size /\
  Below w.heap.size w (st8 w4 w.heap.size (.slice p2 (inO m 16).length cp2) (.slice (some ⟨g3, 0, none⟩) m.ram.length cp3) (.slice (some ⟨g4, 0, none⟩) m.scr.length cp4) m) := by
 have z1 : w1.drew.heap.size = w.heap.size + 1 := hz1
 have z2 := hb2.size
 have z3 := hb3.size
 have z4 := hb4.size
 have hr4 : w4.heap[w.heap.size]? = some (.cells [.slice none 0 0, .slice none 0 0, .slice none 0 0, .int .u8 0, .int .u8 0, .int .u16 0, .int .u8 0, .int .u16 0].toArray 71 (0, 0)) :=
  (hb4.block _ (by omega)).trans ((hb3.block _ (by omega)).trans ((hb2.block _ (by omega)).trans hr1))
 generalize hu : Value.slice p2 (inO m 16).length cp2 = u at *
 generalize hrv : Value.slice (some ⟨g3, 0, none⟩) m.ram.length cp3 = rv at *
 generalize hsv : Value.slice (some ⟨g4, 0, none⟩) m.scr.length cp4 = sv at *
 have far : ∀ k, w.heap.size < k -> (st8 w4 w.heap.size u rv sv m).heap[k]? = w4.heap[k]? := fun k hk => st8_other w4 w.heap.size k u rv sv m (by omega)
 have hB4 : Below w.heap.size w w4 := ((hb1.trans (by exact ⟨hb2.os, hb2.tape, hb2.output, by rw [z1] at z2; omega, fun k hk => hb2.block k (by omega)⟩)).trans (hb3.mono (by omega))).trans (hb4.mono (by omega))
 refine ⟨st8_heap w4 _ u rv sv m _ 71 rfl hr4, ⟨?_, ?_, ?_, by omega, fun y hy => hO2.mem_lt y hy, fun g e => (hO2.row.lt g e).2, fun g e => (hO3.lt g e).2, z3⟩, st8_below w4 _ u rv sv m hB4 (Nat.le_refl _)⟩
 ·have := hO2.kept (W' := st8 w4 w.heap.size u rv sv m) fun i hi hl => (far i (by omega)).trans ((hb4.block i (by omega)).trans (hb3.block i hl))
  exact ⟨this.len, own_mono this.row (by omega), fun i t g a c => Row.mono (this.dat i t g a c) (by omega), this.nd⟩
 ·exact hO3.kept fun g e hg => (far g (by have := (hO3.lt g e).1; omega)).trans (hb4.block g hg)
 ·exact hO4.kept fun g e hg => far g (by have := (hO4.lt g e).1; omega)
set_option maxHeartbeats 4000000
set_option maxRecDepth 100000
theorem image_has (b : Nat) (w : World) {F : Nat -> Prop} {m : MS} (hm : HasM w F b m) :
  Calls Tryz.prog 26 #[.pointer (some ⟨b, 0, none⟩)] w fun e w' => ∃ u rv sv gs N1 N2, e = .returned (.agg (imgC u rv sv m).toArray) /\ ImO w' w.heap.size u rv sv (inO m 16) m.ram m.scr gs N1 N2 /\ Below w.heap.size w w' := by
 obtain ⟨w1, hw1⟩ : ∃ w1, w1 = (w.alloc (.cells #[.slice none 0 0, .slice none 0 0, .slice none 0 0, .int .u8 0, .int .u8 0, .int .u16 0, .int .u8 0, .int .u16 0] 71)) := ⟨_, rfl⟩
 have hb1 : Below w.heap.size w w1 := by rw [hw1]; exact (Below.refl _ w).alloc (Nat.le_refl _) _
 have hz1 : w1.heap.size = w.heap.size + 1 := by rw [hw1]; simp
 have hr1 : w1.heap[w.heap.size]? = some (.cells [.slice none 0 0, .slice none 0 0, .slice none 0 0, .int .u8 0, .int .u8 0, .int .u16 0, .int .u8 0, .int .u16 0].toArray 71 (0, 0)) := by rw [hw1]; exact heap_alloc_new w _
 have hm1 := hm.below hb1
 have hc1 := inOrder_any b w1.drew (hm1.below (Below.refl _ _).drew)
 have hreg : ∀ {W : World}, HasM W F b m -> ∀ (i : Nat) (v : Value), (∀ tv, (regs m tv)[i]? = some v) -> W.cell? ⟨b, 19457 + i, none⟩ = some v := by
  intro W h i v hv
  obtain ⟨mb, L, tv, h⟩ := h
  exact cell_of W b (19457 + i) _ 146 _ h.blk ((mcells_reg mb m tv h.wf i).trans (hv tv))
 have hall : ∀ {W : World}, HasM W F b m -> W.cell? ⟨b, 19457, none⟩ = some (.int .u8 m.ch) /\ W.cell? ⟨b, 19458, none⟩ = some (.int .u8 m.pad) /\ W.cell? ⟨b, 19459, none⟩ = some (.int .u16 m.pitch) /\ W.cell? ⟨b, 19460, none⟩ = some (.int .u8 m.vol) /\ W.cell? ⟨b, 19461, none⟩ = some (.int .u16 m.time) :=
  fun h => ⟨hreg h 0 _ fun _ => rfl, hreg h 1 _ fun _ => rfl, hreg h 2 _ fun _ => rfl, hreg h 3 _ fun _ => rfl, hreg h 4 _ fun _ => rfl⟩
 have hram : ∀ {W : World}, HasM W F b m -> Sl W (.slice (some ⟨b, 1, none⟩) 16384 16384) m.ram := by
  intro W h
  obtain ⟨mb, L, tv, h⟩ := h
  refine .inr ⟨⟨b, 1, none⟩, 16384, by rw [h.wf.ram], by rw [h.wf.ram]; omega, fun j x hj => ?_⟩
  rw [Addr.add_lit]; exact cell_of W b _ _ 146 _ h.blk (mcells_ram mb m tv h.wf j x hj)
 have hrl : m.ram.length <= room := by rw [hm.wf.ram]; unfold room; omega
 have s0 := hall (W := w1.drew) (hm1.below (Below.refl _ _).drew)
 have hrp : 0 < m.ram.length := by rw [hm.wf.ram]; omega
 have hsp : 0 < m.scr.length := by rw [hm.wf.scr]; omega
 have HA : Hid _ := @hall
 have HR : Hid _ := @hram
 have HM1 : Hid _ := hm1
 have HR1 : Hid _ := hr1
 have HB1 : Hid _ := hb1
 have HZ1 : Hid _ := hz1
 have hFin : ∀ w2 w3 w4 : World, Below w1.drew.heap.size w1.drew w2 -> Below w2.heap.size w2 w3 -> Below w3.heap.size w3 w4 -> w4.heap[w.heap.size]? = some (.cells [.slice none 0 0, .slice none 0 0, .slice none 0 0, .int .u8 0, .int .u8 0, .int .u16 0, .int .u8 0, .int .u16 0].toArray 71 (0, 0)) := by
  intro w2 w3 w4 a1 a2 a3
  have z1 : w1.drew.heap.size = w.heap.size + 1 := hz1
  have z2 := a1.size
  have z3 := a2.size
  exact (a3.block _ (by omega)).trans ((a2.block _ (by omega)).trans ((a1.block _ (by omega)).trans hr1))
 have hne : b ≠ w.heap.size := by obtain ⟨mb, L, tv, h⟩ := hm; have := lt_of h.blk; omega
 have HF : Hid _ := hFin
 clear hall hram hm1 hreg hr1 hb1 hz1 hFin hm
 go_enter Tryz.func26, Tryz.ntmps26
 go_wp2_with fail
 rw [<- hw1]
 clear hw1
 go_region_held (fun w' => w'.cell? ⟨b, 19457, none⟩ = some (.int .u8 m.ch) /\ w'.cell? ⟨b, 19458, none⟩ = some (.int .u8 m.pad) /\ w'.cell? ⟨b, 19459, none⟩ = some (.int .u16 m.pitch) /\ w'.cell? ⟨b, 19460, none⟩ = some (.int .u8 m.vol) /\ w'.cell? ⟨b, 19461, none⟩ = some (.int .u16 m.time))
  (first | (with_reducible exact s0) | (with_reducible exact s2) | (with_reducible exact s3) | (with_reducible exact s4) | (simp only [cell_far _ w.heap.size _ _ b _ hne]; with_reducible exact s4))
  (first
   | (go_at_call 57; refine hc1.mono ?_; rintro e w2 ⟨u, gs, rfl, hO2, hb2⟩; obtain ⟨p2, cp2, rfl⟩ := own_form hO2.row; have hm2 := HasM.below HM1.out (W' := w2) ⟨hb2.os, hb2.tape, hb2.output, hb2.size, hb2.block⟩; have s2 := HA.out hm2; have hc2 := clone_any _ m.ram hrl w2 (HR.out hm2); have HO2 : Hid _ := hO2; have HB2 : Hid _ := hb2; have HM2 : Hid _ := hm2; clear hO2 hb2 hm2 hc1 s0)
   | (go_at_call 41; refine hc2.mono ?_; rintro e w3 ⟨rv, rfl, hO3, hb3⟩; obtain ⟨g3, cp3, rfl⟩ := own_pos hO3 hrp; have hm3 := HasM.below HM2.out hb3; have s3 := HA.out hm3; have hc3 := screen_any b w3 hm3; have HO3 : Hid _ := hO3; have HB3 : Hid _ := hb3; have HM3 : Hid _ := hm3; clear hO3 hb3 hm3 hc2 s2)
   | (go_at_call 23; refine hc3.mono ?_; rintro e w4 ⟨sv, rfl, hO4, hb4⟩; obtain ⟨g4, cp4, rfl⟩ := own_pos hO4 hsp; have s4 := HA.out (HasM.below HM3.out hb4); have hr4 := HF.out w2 w3 w4 HB2.out HB3.out hb4; have HO4 : Hid _ := hO4; have HB4 : Hid _ := hb4; clear hO4 hb4 hc3 s3; have f0 := cell_of w4 w.heap.size 0 _ 71 _ hr4 rfl; have f1 := cell_of w4 w.heap.size 1 _ 71 _ hr4 rfl; have f2 := cell_of w4 w.heap.size 2 _ 71 _ hr4 rfl; have f3 := cell_of w4 w.heap.size 3 _ 71 _ hr4 rfl; have f4 := cell_of w4 w.heap.size 4 _ 71 _ hr4 rfl; have f5 := cell_of w4 w.heap.size 5 _ 71 _ hr4 rfl; have f6 := cell_of w4 w.heap.size 6 _ 71 _ hr4 rfl; have f7 := cell_of w4 w.heap.size 7 _ 71 _ hr4 rfl; have z0 := fun i => frozen_of w4 w.heap.size i _ 71 hr4; clear hr4))
 all_goals
  have hx := image_end w w1 w2 w3 w4 m p2 cp2 g3 cp3 g4 cp4 gs HB1.out HZ1.out HB2.out HB3.out HB4.out HO2.out HO3.out HO4.out HR1.out
  go_wp2_with fail
  (try simp only [Exit.inBlock, Exit.then])
  have q0 := cell_of _ w.heap.size 0 _ 71 _ hx.1 rfl
  have q1 := cell_of _ w.heap.size 1 _ 71 _ hx.1 rfl
  have q2 := cell_of _ w.heap.size 2 _ 71 _ hx.1 rfl
  have q3 := cell_of _ w.heap.size 3 _ 71 _ hx.1 rfl
  have q4 := cell_of _ w.heap.size 4 _ 71 _ hx.1 rfl
  have q5 := cell_of _ w.heap.size 5 _ 71 _ hx.1 rfl
  have q6 := cell_of _ w.heap.size 6 _ 71 _ hx.1 rfl
  have q7 := cell_of _ w.heap.size 7 _ 71 _ hx.1 rfl
  refine bodyPost_ret (w := st8 w4 w.heap.size (.slice p2 (inO m 16).length cp2) (.slice (some ⟨g3, 0, none⟩) m.ram.length cp3) (.slice (some ⟨g4, 0, none⟩) m.scr.length cp4) m) (v := .agg (imgC (.slice p2 (inO m 16).length cp2) (.slice (some ⟨g3, 0, none⟩) m.ram.length cp3) (.slice (some ⟨g4, 0, none⟩) m.scr.length cp4) m).toArray) ?_ rfl ⟨_, _, _, _, _, _, rfl, hx.2.1, hx.2.2⟩
  clear hx
  simp [results, Tryz.results26, go_sem, q0, q1, q2, q3, q4, q5, q6, q7, imgC]
def allF (bs : List (Int × List UInt8)) : Bool := bs.all fun t => t.2.length == 16384
def whB (bs : List (Int × List UInt8)) (ram scr : List UInt8) (ch : Int) : Bool := allF bs && (ram.length == 16384) && (scr.length == 3072) && decide (ch < 16)
theorem allF_at (bs : List (Int × List UInt8)) (k : Nat) (hk : k < bs.length) (h : (bs[k]).2.length ≠ 16384) : allF bs = false := by
 rw [Bool.eq_false_iff]; intro c
 rw [allF, List.all_eq_true] at c
 exact h (by simpa using c _ (List.getElem_mem hk))
theorem allF_all (bs : List (Int × List UInt8)) (h : ∀ (j : Nat) t, bs[j]? = some t -> t.2.length = 16384) : allF bs = true := by
 rw [allF, List.all_eq_true]
 intro t ht
 obtain ⟨j, hj, e⟩ := List.mem_iff_getElem.1 ht
 simpa using h j t (by rw [List.getElem?_eq_getElem hj, e])
set_option maxHeartbeats 2000000
set_option maxRecDepth 100000
theorem whole_any (p : Option Addr) (c : Nat) (bs : List (Int × List UInt8)) (hl : bs.length <= room) (rp sp : Option Addr) (rn rc sn sc' : Nat) (m : MS) (w : World) (h : BnS w p bs) (ram scr : List UInt8) (hrn : rn = ram.length) (hsn : sn = scr.length) :
  Calls Tryz.prog 93 #[.agg (imgC (.slice p bs.length c) (.slice rp rn rc) (.slice sp sn sc') m).toArray] w fun e w' => e = .returned (.bool (whB bs ram scr m.ch)) /\ Below w.heap.size w w' := by
 unfold room at hl
 subst hrn hsn
 obtain ⟨w1, hw1⟩ : ∃ w1, w1 = w.alloc (.cells (imgC (.slice p bs.length c) (.slice rp ram.length rc) (.slice sp scr.length sc') m).toArray 71) := ⟨_, rfl⟩
 have hB1 : Below w.heap.size w w1 := by rw [hw1]; exact (Below.refl _ w).alloc (Nat.le_refl _) _
 have hx : w1.heap[w.heap.size]? = some (.cells (imgC (.slice p bs.length c) (.slice rp ram.length rc) (.slice sp scr.length sc') m).toArray 71 (0, 0)) := by rw [hw1]; exact heap_alloc_new w _
 have hz : w1.heap.size = w.heap.size + 1 := by rw [hw1]; simp
 have c0 := cell_of w1 _ 0 _ 71 _ hx rfl
 have HB1 : Hid _ := hB1
 have HX : Hid _ := hx
 have HZ : Hid _ := hz
 clear hB1 hx hz
 unfold imgC at hw1 ⊢
 go_enter Tryz.func93, Tryz.ntmps93
 go_wp2_with fail
 rw [<- hw1]
 clear hw1
 go_wp2
 go_loopw [8] (fun i wr => ∃ k : Nat, k <= bs.length /\ i = .int .i64 (k : Int) /\ (∀ (j : Nat) t, j < k -> bs[j]? = some t -> t.2.length = 16384) /\ Below w1.heap.size w1 wr) (fun i _ => bs.length - (intOf i).toNat)
 case atStart => exact ⟨0, by omega, rfl, fun j t hj => by omega, Below.refl _ _⟩
 case round =>
  obtain ⟨k, hk, rfl, hA, hB⟩ := hrel
  have hBw : Below w.heap.size w wr := HB1.out.trans (hB.mono HB1.out.size)
  by_cases hlt : k < bs.length
  ·have i1 : (k : Int) < bs.length := by omega
   obtain ⟨b, o, dv, rfl, e1, e2, e3, e4⟩ := h.below hBw k bs[k] (List.getElem?_eq_getElem hlt)
   obtain ⟨dp, dc, rfl, _⟩ := e3.ex
   unfold room at e4
   have hAf := allF_at bs k hlt
   have hA2 : (bs[k]).2.length = 16384 -> ∀ (j : Nat) t, j < k + 1 -> bs[j]? = some t -> t.2.length = 16384 := by
    intro c j t hj ht
    by_cases e : j = k
    ·subst e; rw [List.getElem?_eq_getElem hlt] at ht; cases ht; exact c
    ·exact hA j t (by omega) ht
   have hB2 : Below w1.heap.size w1 (wr.alloc (Obj.cells #[.int .i64 (bs[k]).1, .slice dp (bs[k]).2.length dc] 81)) := hB.alloc hB.size _
   have hB3 : Below w.heap.size w (wr.alloc (Obj.cells #[.int .i64 (bs[k]).1, .slice dp (bs[k]).2.length dc] 81)) := hBw.alloc hBw.size _
   clear e3 hA hB hBw
   generalize hn : (bs[k]).1 = n at *
   generalize hL : (bs[k]).2.length = L at *
   have HA : Hid _ := hA2
   have HB : Hid _ := hB2
   have HB3 : Hid _ := hB3
   have HF : Hid _ := hAf
   clear hA2 hB2 hB3 hAf hL hn
   by_cases c1 : L = 16384
   ·have d1 : ((L : Int) != 16384) = false := by simp; omega
    have HA3 : Hid _ := HA.out c1
    clear c1 HA HF
    go_wp2
    go_roundw
    case rel =>
     first
      | exact ⟨k + 1, by omega, by go_num, HA3.out, HB.out⟩
      | ((repeat apply Exists.intro); refine ⟨⟨k + 1, by omega, ?_, HA3.out, HB.out⟩, rfl⟩; go_num)
    case measure => simp [intOf]; omega
   ·have d1 : ((L : Int) != 16384) = true := by simp; omega
    have f1 : whB bs ram scr m.ch = false := by simp [whB, HF.out c1]
    clear c1 HA HF
    go_wp2
    go_ret
    exact ⟨by rw [f1]; rfl, HB3.out⟩
  ·obtain rfl : k = bs.length := by omega
   have hAf := allF_all bs (fun j t ht => hA j t (List.getElem?_eq_some_iff.1 ht).1 ht)
   have hx2 : wr.heap[w.heap.size]? = _ := (hB.block _ (by rw [HZ.out]; omega)).trans HX.out
   have k1 := cell_of wr _ 1 _ 71 _ hx2 rfl
   have k2 := cell_of wr _ 2 _ 71 _ hx2 rfl
   have k3 := cell_of wr _ 3 _ 71 _ hx2 rfl
   have HBw : Hid _ := hBw
   clear hx2 hA hB hBw
   have hw' : whB bs ram scr m.ch = ((ram.length == 16384) && (scr.length == 3072) && decide (m.ch < 16)) := by simp [whB, hAf]
   have HW : Hid _ := hw'
   clear hAf hw'
   by_cases q1 : ram.length = 16384
   ·by_cases q2 : scr.length = 3072
    ·by_cases q3 : m.ch < 16
     ·have d1 : ((ram.length : Int) == 16384) = true := by simp; omega
      have d2 : ((scr.length : Int) == 3072) = true := by simp; omega
      have d3 : decide (m.ch < 16) = true := by simpa using q3
      have d4 : (ram.length == 16384) = true := by simpa using q1
      have d5 : (scr.length == 3072) = true := by simpa using q2
      clear q1 q2 q3
      go_wp2
      go_ret
      (refine ⟨congrArg Ending.returned (congrArg Value.bool ?_), HBw.out⟩; rw [HW.out]; simp [d3, d4, d5])
     ·have d1 : ((ram.length : Int) == 16384) = true := by simp; omega
      have d2 : ((scr.length : Int) == 3072) = true := by simp; omega
      have d3 : decide (m.ch < 16) = false := by simpa using q3
      clear q1 q2 q3
      go_wp2
      go_ret
      (refine ⟨congrArg Ending.returned (congrArg Value.bool ?_), HBw.out⟩; rw [HW.out]; simp [d3])
    ·have d1 : ((ram.length : Int) == 16384) = true := by simp; omega
     have d2 : ((scr.length : Int) == 3072) = false := by simp; omega
     have d5 : (scr.length == 3072) = false := by simpa using q2
     clear q1 q2
     go_wp2
     go_ret
     (refine ⟨congrArg Ending.returned (congrArg Value.bool ?_), HBw.out⟩; rw [HW.out]; simp [d5])
   ·have d1 : ((ram.length : Int) == 16384) = false := by simp; omega
    have d4 : (ram.length == 16384) = false := by simpa using q1
    clear q1
    go_wp2
    go_ret
    (refine ⟨congrArg Ending.returned (congrArg Value.bool ?_), HBw.out⟩; rw [HW.out]; simp [d4])
theorem MemP.reblk {W W' : World} {F : Nat -> Prop} {b : Nat} {m : MS} {mb : Nat} {L : List (Nat × Nat)} {tv : Value} (h : MemP W F b m mb L tv) (m' : MS) (wf : Wf m') (hb : W'.heap[b]? = some (.cells (mcells mb m' tv).toArray 146 (0, 0)))
  (k : ∀ i, i ≠ b -> W'.heap[i]? = W.heap[i]?) (e3 : m'.banks = m.banks) (e4 : m'.tones = m.tones) : MemP W' F b m' mb L tv :=
 {wf := wf
  blk := hb
  map := (k _ h.ne_map).trans h.map
  keys := h.keys
  lt16 := h.lt16
  blks := h.blks
  bks := fun p hp => by obtain ⟨l, e1, e2⟩ := h.bks p hp; exact ⟨l, by rw [e3]; exact e1, (k _ (h.ne_bk p hp)).trans e2⟩
  all := fun n l hn => h.all n l (by rw [<- e3]; exact hn)
  tones := by rw [e4]; exact own_kept h.tones fun g e _ => k _ (h.ne_t g e)
  fb := h.fb
  fmb := h.fmb
  fbk := h.fbk
  ft := h.ft }
theorem info5s : (Tryz.prog.info? 5).map (·.size) = some 1 := by kernel_rfl
theorem copy_part (W : World) (b o n : Nat) (v : Value) (l : List UInt8) (c : List Value) (hb : W.heap[b]? = some (.cells c.toArray 146 (0, 0))) (hs : Sl W v l) (hl : l.length = n) (hn : 0 < n) (hc : o + n <= c.length) :
  ∃ W', (Builtin.copy_ #[22, 22] 3 #[.slice (some ⟨b, o, none⟩) n n, v]).run Tryz.prog W = .ok (.int .i64 (n : Int)) W' /\ W'.heap[b]? = some (.cells (c.take o ++ bv l ++ c.drop (o + n)).toArray 146 (0, 0)) /\ (∀ k, k ≠ b -> W'.heap[k]? = W.heap[k]?) /\ W'.heap.size = W.heap.size /\ W'.os = W.os /\ W'.tape = W.tape /\ W'.output = W.output := by
 rcases hs with ⟨rfl, rfl⟩ | ⟨x, cc, rfl, hcc, hcell⟩
 ·simp at hl; omega
 ·have hr := run_copy_row (P := Tryz.prog) W 22 22 3 5 b o n n x l.length cc c.toArray 146 (bv l) Tryz.underlying22 info5s hb (by rw [bv_len, hl]; exact (Nat.min_self n).symm)
   (fun j u hj => by obtain ⟨y, hy, rfl⟩ := (bv_get l j u).1 hj; exact hcell j y hy) (by rw [bv_len, hl, List.size_toArray]; exact hc) (bv_one l)
  rw [bv_len, hl] at hr
  rw [hl]
  exact ⟨_, hr, setRow_eq W b c 146 _ hb, fun k hk => setRow_other W b k _ hk, size_setRow _ _ _, rfl, rfl, rfl⟩
theorem mcells_ram_new (mb : Nat) (m : MS) (tv : Value) (h : Wf m) (l : List UInt8) : (mcells mb m tv).take 1 ++ bv l ++ (mcells mb m tv).drop (1 + 16384) = mcells mb { m with ram := l } tv := by
 have e : (mcells mb m tv).drop (1 + 16384) = bv m.scr ++ regs m tv := by
  rw [mcells, Nat.add_comm, List.drop_succ_cons, List.drop_append_of_le_length (by rw [bv_len, h.ram]; omega), List.drop_of_length_le (by rw [bv_len, h.ram]; omega), List.nil_append]
 rw [e]; rfl
theorem mcells_scr_new (mb : Nat) (m : MS) (tv : Value) (h : Wf m) (l : List UInt8) : (mcells mb m tv).take 16385 ++ bv l ++ (mcells mb m tv).drop (16385 + 3072) = mcells mb { m with scr := l } tv := by
 have e1 : (mcells mb m tv).take 16385 = Value.map (some mb) :: bv m.ram := by
  rw [mcells, List.take_succ_cons, List.take_append_of_le_length (by rw [bv_len, h.ram]; omega), List.take_of_length_le (by rw [bv_len, h.ram]; omega)]
 have e2 : (mcells mb m tv).drop (16385 + 3072) = regs m tv := by
  rw [mcells, show 16385 + 3072 = (16384 + 3072) + 1 by omega, List.drop_succ_cons, List.drop_append, bv_len, h.ram, List.drop_of_length_le (by rw [bv_len, h.ram]; omega), List.nil_append, show 16384 + 3072 - 16384 = 3072 by omega,
   List.drop_append, bv_len, h.scr, List.drop_of_length_le (by rw [bv_len, h.scr]; omega), List.nil_append]
  rfl
 rw [e1, e2]; simp [mcells, regs]
def mR (bs : List (Int × List UInt8)) (ram scr : List UInt8) (m : MS) : MS := { ram := ram, scr := scr, ch := m.ch, pad := m.pad, pitch := m.pitch, vol := m.vol, time := m.time, cyc := 0, tones := [], banks := nbk bs }
theorem cell_drew (W : World) (a : Addr) : W.drew.cell? a = W.cell? a := rfl
set_option maxHeartbeats 4000000
set_option maxRecDepth 100000
theorem restore_yes (p : Option Addr) (c : Nat) (bs : List (Int × List UInt8)) (hl : bs.length <= room) (rp sp : Option Addr) (rc sc' : Nat) (m : MS) (w : World) (h : BnS w p bs) (ram scr : List UInt8) (hr : Sl w (.slice rp ram.length rc) ram) (hs : Sl w (.slice sp scr.length sc') scr)
  (hwb : whB bs ram scr m.ch = true) (hm : mayB (-1) bs = true) (c0 : 0 <= m.ch) (p0 : 0 <= m.pad) (p1 : m.pad < 256) (t0 : 0 <= m.pitch) (t1 : m.pitch < 65536) (v0 : 0 <= m.vol) (v1 : m.vol < 256) (i0 : 0 <= m.time) (i1 : m.time < 65536) :
  Calls Tryz.prog 55 #[.agg (imgC (.slice p bs.length c) (.slice rp ram.length rc) (.slice sp scr.length sc') m).toArray] w fun e w' => ∃ b, e = .returned (.tuple #[.pointer (some ⟨b, 0, none⟩), .int .i64 0]) /\ HasM w' (fun k => w.heap.size <= k) b (mR bs ram scr m) /\ Below w.heap.size w w' := by
 have hrl : ram.length = 16384 /\ scr.length = 3072 /\ m.ch < 16 := by
  simp only [whB, Bool.and_eq_true, beq_iff_eq, decide_eq_true_eq] at hwb
  exact ⟨hwb.1.1.2, hwb.1.2, hwb.2⟩
 obtain ⟨w1, hw1⟩ : ∃ w1, w.alloc (.cells (imgC (.slice p bs.length c) (.slice rp ram.length rc) (.slice sp scr.length sc') m).toArray 71) = w1 := ⟨_, rfl⟩
 have hB1 : Below w.heap.size w w1 := by rw [<- hw1]; exact (Below.refl _ w).alloc (Nat.le_refl _) _
 have hx : w1.heap[w.heap.size]? = some (.cells (imgC (.slice p bs.length c) (.slice rp ram.length rc) (.slice sp scr.length sc') m).toArray 71 (0, 0)) := by rw [<- hw1]; exact heap_alloc_new w _
 have hz : w1.heap.size = w.heap.size + 1 := by rw [<- hw1]; simp
 have hwh := whole_any p c bs hl rp sp ram.length rc scr.length sc' m w1 (h.below hB1) ram scr rfl rfl
 rw [hwb] at hwh
 have k0 := cell_of w1 _ 0 _ 71 _ hx rfl
 have k1 := cell_of w1 _ 1 _ 71 _ hx rfl
 have k2 := cell_of w1 _ 2 _ 71 _ hx rfl
 have k3 := cell_of w1 _ 3 _ 71 _ hx rfl
 have k4 := cell_of w1 _ 4 _ 71 _ hx rfl
 have k5 := cell_of w1 _ 5 _ 71 _ hx rfl
 have k6 := cell_of w1 _ 6 _ 71 _ hx rfl
 have k7 := cell_of w1 _ 7 _ 71 _ hx rfl
 have HX : Hid _ := hx
 have HB1 : Hid _ := hB1
 have HZ : Hid _ := hz
 have HRL : Hid _ := hrl
 have HR : Hid _ := hr
 have HS : Hid _ := hs
 clear hx hB1 hz hrl hwb hr hs
 unfold imgC at hw1 hwh ⊢
 go_enter Tryz.func55, Tryz.ntmps55
 go_wp2_with fail
 refine hwh.mono ?_
 rintro e w2 ⟨rfl, hb2⟩
 have hB2 : Below w.heap.size w w2 := HB1.out.trans (hb2.mono HB1.out.size)
 have hx2 := (hb2.block _ (by rw [HZ.out]; omega)).trans HX.out
 have q0 := cell_of w2 _ 0 _ 71 _ hx2 rfl
 have hnw := new_yes p c bs hl w2 (h.below hB2) hm
 clear hwh k0 k1 k2 k3 k4 k5 k6 k7 hw1
 go_wp2_with fail
 refine hnw.mono ?_
 rintro e w3 ⟨b, rfl, ⟨mb, L, tv, hM3⟩, hb3⟩
 have hB3 : Below w.heap.size w w3 := hB2.trans (hb3.mono hB2.size)
 have hz2 : w.heap.size < w2.heap.size := by have := hb2.size; have := HZ.out; omega
 have hbx : b ≠ w.heap.size := by have : w2.heap.size <= b := hM3.fb; omega
 have hx3 := (hb3.block _ hz2).trans hx2
 have hM3' : MemP w3.drew (fun k => w.heap.size <= k) b { m0 with banks := nbk bs } mb L tv := (hM3.mono fun i _ (hi : w2.heap.size <= i) => (by omega : w.heap.size <= i)).kept fun _ _ _ => rfl
 have q1 := cell_of w3 _ 1 _ 71 _ hx3 rfl
 obtain ⟨w4, hcp4, hbk4, hk4, hs4, o4, t4, u4⟩ := copy_part w3.drew b 1 16384 (.slice rp ram.length rc) ram _ hM3'.blk (Sl.below HR.out (hB3.drew)) HRL.out.1 (by omega) (by rw [mcells_len _ _ _ hM3'.wf]; omega)
 rw [mcells_ram_new mb _ tv hM3'.wf] at hbk4
 have hw3 := hM3'.wf
 have hM4 : MemP w4 (fun k => w.heap.size <= k) b { m0 with banks := nbk bs, ram := ram } mb L tv := hM3'.reblk _ ⟨HRL.out.1, hw3.scr, hw3.ch0, hw3.ch1, hw3.pad0, hw3.pad1, hw3.pitch0, hw3.pitch1, hw3.vol0, hw3.vol1, hw3.time0, hw3.time1, hw3.bk⟩ hbk4 hk4 rfl rfl
 have hB4 : Below w.heap.size w w4 := ⟨o4.trans hB3.os, t4.trans hB3.tape, u4.trans hB3.output, by rw [hs4]; exact hB3.size, fun k hk => (hk4 k (by have : w.heap.size <= b := hM4.fb; omega)).trans (hB3.block k hk)⟩
 have hx4 := (hk4 _ hbx.symm).trans hx3
 have hM4' : MemP w4.drew (fun k => w.heap.size <= k) b { m0 with banks := nbk bs, ram := ram } mb L tv := hM4.kept fun _ _ _ => rfl
 have q2 := cell_of w4 _ 2 _ 71 _ hx4 rfl
 obtain ⟨w5, hcp5, hbk5, hk5, hs5, o5, t5, u5⟩ := copy_part w4.drew b 16385 3072 (.slice sp scr.length sc') scr _ hM4'.blk (Sl.below HS.out (hB4.drew)) HRL.out.2.1 (by omega) (by rw [mcells_len _ _ _ hM4'.wf]; omega)
 rw [mcells_scr_new mb _ tv hM4'.wf] at hbk5
 have hM5 : MemP w5 (fun k => w.heap.size <= k) b { m0 with banks := nbk bs, ram := ram, scr := scr } mb L tv := hM4'.reblk _ ⟨HRL.out.1, HRL.out.2.1, hw3.ch0, hw3.ch1, hw3.pad0, hw3.pad1, hw3.pitch0, hw3.pitch1, hw3.vol0, hw3.vol1, hw3.time0, hw3.time1, hw3.bk⟩ hbk5 hk5 rfl rfl
 have hB5 : Below w.heap.size w w5 := ⟨o5.trans hB4.os, t5.trans hB4.tape, u5.trans hB4.output, by rw [hs5]; exact hB4.size, fun k hk => (hk5 k (by have : w.heap.size <= b := hM5.fb; omega)).trans (hB4.block k hk)⟩
 have hx5 := (hk5 _ hbx.symm).trans hx4
 have a3 : w5.cell? ⟨w.heap.size, 3, none⟩ = some (.int .u8 m.ch) := cell_of w5 _ 3 _ 71 _ hx5 rfl
 have a4 : w5.cell? ⟨w.heap.size, 4, none⟩ = some (.int .u8 m.pad) := cell_of w5 _ 4 _ 71 _ hx5 rfl
 have a5 : w5.cell? ⟨w.heap.size, 5, none⟩ = some (.int .u16 m.pitch) := cell_of w5 _ 5 _ 71 _ hx5 rfl
 have a6 : w5.cell? ⟨w.heap.size, 6, none⟩ = some (.int .u8 m.vol) := cell_of w5 _ 6 _ 71 _ hx5 rfl
 have a7 : w5.cell? ⟨w.heap.size, 7, none⟩ = some (.int .u16 m.time) := cell_of w5 _ 7 _ 71 _ hx5 rfl
 have s0 : w5.drew.cell? ⟨w.heap.size, 3, none⟩ = some (.int .u8 m.ch) /\ w5.drew.cell? ⟨w.heap.size, 4, none⟩ = some (.int .u8 m.pad) /\ w5.drew.cell? ⟨w.heap.size, 5, none⟩ = some (.int .u16 m.pitch) /\ w5.drew.cell? ⟨w.heap.size, 6, none⟩ = some (.int .u8 m.vol) /\ w5.drew.cell? ⟨w.heap.size, 7, none⟩ = some (.int .u16 m.time) := ⟨a3, a4, a5, a6, a7⟩
 have hfin : HasM ((((((w5.setCell ⟨b, 19457, none⟩ (.int .u8 m.ch)).setCell ⟨b, 19458, none⟩ (.int .u8 m.pad)).setCell ⟨b, 19459, none⟩ (.int .u16 m.pitch)).setCell ⟨b, 19460, none⟩ (.int .u8 m.vol)).setCell ⟨b, 19461, none⟩ (.int .u16 m.time))) (fun k => w.heap.size <= k) b (mR bs ram scr m) /\
   Below w.heap.size w ((((((w5.setCell ⟨b, 19457, none⟩ (.int .u8 m.ch)).setCell ⟨b, 19458, none⟩ (.int .u8 m.pad)).setCell ⟨b, 19459, none⟩ (.int .u16 m.pitch)).setCell ⟨b, 19460, none⟩ (.int .u8 m.vol)).setCell ⟨b, 19461, none⟩ (.int .u16 m.time))) := by
  have hbw : w.heap.size <= b := hM5.fb
  have w5' := hM5.wf
  have x1 := hM5.reg 0 (.int .u8 m.ch) { m0 with banks := nbk bs, ram := ram, scr := scr, ch := m.ch } (w5'.regs rfl rfl rfl c0 HRL.out.2.2 w5'.pad0 w5'.pad1 w5'.pitch0 w5'.pitch1 w5'.vol0 w5'.vol1 w5'.time0 w5'.time1) rfl rfl rfl rfl rfl
  have x2 := x1.reg 1 (.int .u8 m.pad) { m0 with banks := nbk bs, ram := ram, scr := scr, ch := m.ch, pad := m.pad } (w5'.regs rfl rfl rfl c0 HRL.out.2.2 p0 p1 w5'.pitch0 w5'.pitch1 w5'.vol0 w5'.vol1 w5'.time0 w5'.time1) rfl rfl rfl rfl rfl
  have x3 := x2.reg 2 (.int .u16 m.pitch) { m0 with banks := nbk bs, ram := ram, scr := scr, ch := m.ch, pad := m.pad, pitch := m.pitch } (w5'.regs rfl rfl rfl c0 HRL.out.2.2 p0 p1 t0 t1 w5'.vol0 w5'.vol1 w5'.time0 w5'.time1) rfl rfl rfl rfl rfl
  have x4 := x3.reg 3 (.int .u8 m.vol) { m0 with banks := nbk bs, ram := ram, scr := scr, ch := m.ch, pad := m.pad, pitch := m.pitch, vol := m.vol } (w5'.regs rfl rfl rfl c0 HRL.out.2.2 p0 p1 t0 t1 v0 v1 w5'.time0 w5'.time1) rfl rfl rfl rfl rfl
  have x5 := x4.reg 4 (.int .u16 m.time) (mR bs ram scr m) (w5'.regs rfl rfl rfl c0 HRL.out.2.2 p0 p1 t0 t1 v0 v1 i0 i1) rfl rfl rfl rfl rfl
  refine ⟨⟨mb, L, tv, x5⟩, ?_⟩
  exact ((((hB5.setCell (p := ⟨b, 19457, none⟩) hbw _).setCell (p := ⟨b, 19458, none⟩) hbw _).setCell (p := ⟨b, 19459, none⟩) hbw _).setCell (p := ⟨b, 19460, none⟩) hbw _).setCell (p := ⟨b, 19461, none⟩) hbw _
 have r0 := cell_of w5 b (19457 + 0) _ 146 _ hM5.blk ((mcells_reg mb _ tv hM5.wf 0).trans rfl)
 have r1 := cell_of w5 b (19457 + 1) _ 146 _ hM5.blk ((mcells_reg mb _ tv hM5.wf 1).trans rfl)
 have r2 := cell_of w5 b (19457 + 2) _ 146 _ hM5.blk ((mcells_reg mb _ tv hM5.wf 2).trans rfl)
 have r3 := cell_of w5 b (19457 + 3) _ 146 _ hM5.blk ((mcells_reg mb _ tv hM5.wf 3).trans rfl)
 have r4 := cell_of w5 b (19457 + 4) _ 146 _ hM5.blk ((mcells_reg mb _ tv hM5.wf 4).trans rfl)
 have zz := fun i => frozen_of w5 b i _ 146 hM5.blk
 simp only [Nat.reduceAdd, Nat.add_zero] at r0 r1 r2 r3 r4
 have HF : Hid _ := hfin
 clear hfin hM5 hB5 hx5 hbk5 hk5 hs5 hM4' hM4 hB4 hx4 hbk4 hk4 hs4 hM3 hM3' hB3 hx3 hx2 hb3 hb2 hB2 hnw q0 hw3 o4 t4 u4 o5 t5 u5
 generalize (⟨m0.ram, m0.scr, m0.ch, m0.pad, m0.pitch, m0.vol, m0.time, m0.cyc, m0.tones, nbk bs⟩ : MS) = mm at *
 clear mm
 go_wp2_with fail
 go_region
 go_wp2_with fail
 go_region
 go_wp2_with fail
 clear hcp4 hcp5 q1 q2
 go_region_held (fun w' => w'.cell? ⟨w.heap.size, 3, none⟩ = some (.int .u8 m.ch) /\ w'.cell? ⟨w.heap.size, 4, none⟩ = some (.int .u8 m.pad) /\ w'.cell? ⟨w.heap.size, 5, none⟩ = some (.int .u16 m.pitch) /\ w'.cell? ⟨w.heap.size, 6, none⟩ = some (.int .u8 m.vol) /\ w'.cell? ⟨w.heap.size, 7, none⟩ = some (.int .u16 m.time))
  (first | (with_reducible exact s0) | (simp only [cell_drew, cell_far _ b _ _ w.heap.size _ hbx.symm]; exact ⟨a3, a4, a5, a6, a7⟩))
  (fail)
 go_wp2
 go_ret2
 exact ⟨_, rfl, HF.out.1.below ((Below.refl _ _).drew), HF.out.2.drew⟩
end Go.Proofs.YteldjmecomngeaaGreat.M
