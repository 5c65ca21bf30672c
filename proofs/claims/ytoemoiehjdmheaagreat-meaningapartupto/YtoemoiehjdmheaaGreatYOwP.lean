import Derived.Test.YtoemoiehjdmheaaGreatDDrop
import Derived.Test.YtoemoiehjdmheaaGreatYOwN
import Derived.Test.YtoemoiehjdmheaaGreatYBank
import Derived.Test.YtoemoiehjdmheaaGreatMOps
import Derived.Laws.BytesArg
namespace Go.Proofs.YtoemoiehjdmheaaGreat.Y
open Go.RowKit
open Go.Proofs
open Go.Proofs.YtoemoiehjdmheaaGreat.D (wp_region_drop wpD_take wpD_ready wpD_done AllD.nil AllD.cons AllD.late)
set_option linter.unusedVariables false
set_option linter.unusedSimpArgs false
set_option maxHeartbeats 4000000
set_option maxRecDepth 100000
def BT (W : World) (O : Nat -> Prop) (v : Value) (l : List UInt8) : Prop := BS W O v l /\ ∃ p c, v = .slice p l.length c /\ l.length <= c
theorem BT.kept {W W' : World} {O O' : Nat -> Prop} {v : Value} {l : List UInt8} (h : BT W O v l) (k : ∀ i, O i -> W'.heap[i]? = W.heap[i]?) (m : ∀ i, O i -> O' i) : BT W' O' v l := ⟨h.1.kept k m, h.2⟩
theorem BT.sl {W : World} {O : Nat -> Prop} {v : Value} {l : List UInt8} (h : BT W O v l) : M.Sl W v l := by
 obtain ⟨h1, p, c, e, hc⟩ := h
 rcases h1 with ⟨rfl | ⟨a, c', rfl⟩, rfl⟩ | ⟨b, o, c', rfl, _, h⟩
 ·exact .inl ⟨rfl, rfl⟩
 ·exact .inr ⟨a, c', rfl, by simp, fun j x hj => by simp at hj⟩
 ·cases e
  exact .inr ⟨⟨b, o, none⟩, c, rfl, hc, fun j x hj => by rw [Addr.add_lit]; exact h j x hj⟩
def DC (W : World) (O : Nat -> Prop) : List Df -> List Value -> Prop
 | [], cs => cs = []
 | d :: r, cs => ∃ bv cs', cs = dfc d bv ++ cs' /\ NV W O bv d.body /\ DC W O r cs'
theorem DC.kept {W W' : World} {O O' : Nat -> Prop} (k : ∀ i, O i -> W'.heap[i]? = W.heap[i]?) (m : ∀ i, O i -> O' i) : ∀ {l : List Df} {cs : List Value}, DC W O l cs -> DC W' O' l cs
 | [], cs, h => h
 | n :: r, cs, h => by
  obtain ⟨bv, cs', e, h1, h3⟩ := h
  exact ⟨bv, cs', e, h1.kept k m, DC.kept k m h3⟩
theorem DC.app {W : World} {O : Nat -> Prop} : ∀ {l l' : List Df} {cs cs' : List Value}, DC W O l cs -> DC W O l' cs' -> DC W O (l ++ l') (cs ++ cs')
 | [], l', cs, cs', h, h' => by rw [DC] at h; subst h; exact h'
 | n :: r, l', cs, cs', h, h' => by
  obtain ⟨bv, cs1, rfl, h1, h3⟩ := h
  exact ⟨bv, cs1 ++ cs', by rw [List.append_assoc], h1, DC.app h3 h'⟩
theorem DC.get {W : World} {O : Nat -> Prop} : ∀ {l : List Df} {cs : List Value}, DC W O l cs -> ∀ (i : Nat) (n : Df), l[i]? = some n -> ∃ bv, (∀ (j : Nat) (x : Value), (dfc n bv)[j]? = some x -> cs[i * 6 + j]? = some x) /\ NV W O bv n.body
 | [], cs, h, i, n, hi => by simp at hi
 | m :: r, cs, h, 0, n, hi => by
  obtain ⟨bv, cs1, rfl, h1, h3⟩ := h
  simp at hi; subst hi
  exact ⟨bv, fun j x hx => by rw [Nat.zero_mul, Nat.zero_add, List.getElem?_append_left (List.getElem?_eq_some_iff.1 hx).1]; exact hx, h1⟩
 | m :: r, cs, h, i + 1, n, hi => by
  obtain ⟨bv, cs1, rfl, h1, h3⟩ := h
  obtain ⟨t, hc, ht⟩ := DC.get h3 i n (by simpa using hi)
  refine ⟨t, fun j x hx => ?_, ht⟩
  have e6 : (dfc m bv).length = 6 := rfl
  rw [List.getElem?_append_right (by rw [e6]; omega), e6, show (i + 1) * 6 + j - 6 = i * 6 + j by omega]
  exact hc j x hx
def BC (W : World) (O : Nat -> Prop) : List Bk -> List Value -> Prop
 | [], cs => cs = []
 | d :: r, cs => ∃ bv cs', cs = [.int .i64 d.1, bv] ++ cs' /\ BT W O bv d.2 /\ BC W O r cs'
theorem BC.kept {W W' : World} {O O' : Nat -> Prop} (k : ∀ i, O i -> W'.heap[i]? = W.heap[i]?) (m : ∀ i, O i -> O' i) : ∀ {l : List Bk} {cs : List Value}, BC W O l cs -> BC W' O' l cs
 | [], cs, h => h
 | n :: r, cs, h => by
  obtain ⟨bv, cs', e, h1, h3⟩ := h
  exact ⟨bv, cs', e, h1.kept k m, BC.kept k m h3⟩
theorem BC.app {W : World} {O : Nat -> Prop} : ∀ {l l' : List Bk} {cs cs' : List Value}, BC W O l cs -> BC W O l' cs' -> BC W O (l ++ l') (cs ++ cs')
 | [], l', cs, cs', h, h' => by rw [BC] at h; subst h; exact h'
 | n :: r, l', cs, cs', h, h' => by
  obtain ⟨bv, cs1, rfl, h1, h3⟩ := h
  exact ⟨bv, cs1 ++ cs', by rw [List.append_assoc], h1, BC.app h3 h'⟩
theorem BC.get {W : World} {O : Nat -> Prop} : ∀ {l : List Bk} {cs : List Value}, BC W O l cs -> ∀ (i : Nat) (n : Bk), l[i]? = some n -> ∃ bv, cs[i * 2]? = some (.int .i64 n.1) /\ cs[i * 2 + 1]? = some bv /\ BT W O bv n.2
 | [], cs, h, i, n, hi => by simp at hi
 | m :: r, cs, h, 0, n, hi => by
  obtain ⟨bv, cs1, rfl, h1, h3⟩ := h
  simp at hi; subst hi
  exact ⟨bv, rfl, rfl, h1⟩
 | m :: r, cs, h, i + 1, n, hi => by
  obtain ⟨bv, cs1, rfl, h1, h3⟩ := h
  obtain ⟨t, hc, hd, ht⟩ := BC.get h3 i n (by simpa using hi)
  refine ⟨t, ?_, ?_, ht⟩
  ·rw [show (i + 1) * 2 = i * 2 + 1 + 1 by omega]; exact hc
  ·rw [show (i + 1) * 2 + 1 = i * 2 + 1 + 1 + 1 by omega]; exact hd
structure QL (W wr : World) (dv bkv : Value) (ds : List Df) (k : Nat) : Prop where
 bel : Below W.heap.size W wr
 b1 : wr.heap[W.heap.size]? = some (.cells [dv, bkv].toArray 47 (0, 0))
 b2 : wr.heap[W.heap.size + 1]? = some (.cells [.slice none 0 0, .slice none 0 0].toArray 47 (0, 0))
 ex : ∃ (out : Value) (U : Nat -> Prop) (cs : List Value), wr.heap[W.heap.size + 2]? = some (.cells [out, .slice none 0 0].toArray 47 (0, 0)) /\ (∀ i, U i -> W.heap.size + 3 <= i /\ i < wr.heap.size /\ out.ownBlock ≠ some i) /\ DC wr U (ds.take k) cs /\ wr.ownsRow (W.heap.size + 3) 60 6 out k cs
structure QB (W w8 wr : World) (dvq : Value) (bs : List Bk) (k : Nat) : Prop where
 bel : Below W.heap.size W wr
 kp : ∀ i, i < w8.heap.size -> i ≠ W.heap.size + 2 -> wr.heap[i]? = w8.heap[i]?
 sz : w8.heap.size <= wr.heap.size
 ex : ∃ (out : Value) (U : Nat -> Prop) (cs : List Value), wr.heap[W.heap.size + 2]? = some (.cells [dvq, out].toArray 47 (0, 0)) /\ (∀ i, U i -> w8.heap.size <= i /\ i < wr.heap.size /\ out.ownBlock ≠ some i) /\ BC wr U (bs.take k) cs /\ wr.ownsRow w8.heap.size 114 2 out k cs
theorem dfc_one (d : Df) (bv : Value) (h1 : ∃ p m c, bv = .slice p m c) : ∀ u ∈ dfc d bv, u.oneCell' = true := by
 obtain ⟨_, _, _, rfl⟩ := h1
 intro u hu
 simp only [dfc, List.mem_cons, List.not_mem_nil, or_false] at hu
 rcases hu with rfl | rfl | rfl | rfl | rfl | rfl <;> rfl
theorem infoDef : (Tryz.prog.info? 60).map (fun i => (i.zero, i.size, i.bytes)) = some (some (.agg #[.int .i64 0, .string ⟨#[]⟩, .int .u16 0, .slice none 0 0, .int .i64 0, .int .i64 0]), 6, 72) := by kernel_rfl
theorem infoBk : (Tryz.prog.info? 114).map (fun i => (i.zero, i.size, i.bytes)) = some (some (.agg #[.int .i64 0, .slice none 0 0]), 2, 32) := by kernel_rfl
theorem infoU8 : (Tryz.prog.info? 5).map (fun i => (i.zero, i.size, i.bytes)) = some (some (.int .u8 0), 1, 1) := by kernel_rfl
theorem own_cap2 {W : World} {B : Nat} {e : TypeId} {size n c : Nat} {p : Option Addr} {xs : List Value} (h : W.ownsRow B e size (.slice p n c) n xs) : n <= c := by
 rcases h.2 with ⟨h', e⟩ | ⟨g', cap', cur, h', _, _, hnc, _⟩
 ·omega
 ·cases h'; exact hnc
theorem own_prog (ds : List Df) (bs : List Bk) (dv bkv : Value) (O : Nat -> Prop) (W : World) (hO : ∀ i, O i -> i < W.heap.size) (hD : DV W O dv ds) (hK : BV W O bkv bs) (hd1 : ds.length <= 1048576) (hd2 : ∀ d ∈ ds, nl d.body <= 1048576) (hb1 : bs.length <= 1048576) (hb2 : ∀ d ∈ bs, d.2.length <= 1048576) :
  Calls Tryz.prog 15 #[.agg #[dv, bkv]] W fun e w' => ∃ dv' bp bc, e = .returned (.agg #[dv', .slice bp bs.length bc]) /\ DV w' (fun i => W.heap.size <= i /\ i < w'.heap.size) dv' ds /\ BV w' (fun i => W.heap.size <= i /\ i < w'.heap.size) (.slice bp bs.length bc) bs /\ M.BnS w' bp bs /\ Below W.heap.size W w' := by
 obtain ⟨q, c2, rfl, hl, hp⟩ := id hD
 obtain ⟨qb, cb2, rfl, hpb⟩ := id hK
 obtain ⟨W1, hW1⟩ : ∃ W1, ((W.alloc (.cells #[.slice q ds.length c2, .slice qb bs.length cb2] 47)).alloc (.cells #[.slice none 0 0, .slice none 0 0] 47)).alloc (.cells #[.slice none 0 0, .slice none 0 0] 47) = W1 := ⟨_, rfl⟩
 have hI : QL W W1 (.slice q ds.length c2) (.slice qb bs.length cb2) ds 0 := by
  rw [<- hW1]
  have t : ∀ (X : World) (o : Obj) (i : Nat), i < X.heap.size -> (X.alloc o).heap[i]? = X.heap[i]? := fun X o i hi => ((Below.refl _ X).alloc (Nat.le_refl _) o).block i hi
  refine ⟨(((Below.refl _ W).alloc (Nat.le_refl _) _).alloc (by simp) _).alloc (by simp; omega) _, (t _ _ _ (by simp; omega)).trans (heap_alloc2_old W _ _), (t _ _ _ (by simp)).trans (heap_alloc2_new W _ _), .slice none 0 0, fun _ => False, [], ?_, fun _ h => h.elim, rfl, World.ownsRow_nil _ _ _ _⟩
  have := heap_alloc_new ((W.alloc (.cells #[.slice q ds.length c2, .slice qb bs.length cb2] 47)).alloc (.cells #[.slice none 0 0, .slice none 0 0] 47)) (.cells #[.slice none 0 0, .slice none 0 0] 47)
  simpa [World.size_alloc, Nat.add_assoc] using this
 have HI := hid hI
 have HW := hid hW1
 have hb2' := hb2
 have HH := hid (And.intro hO (And.intro hp (And.intro hpb (And.intro hd2 hb2))))
 clear hI hW1 hO hp hpb hD hK hd2 hb2
 go_enter Tryz.func15, Tryz.ntmps15
 go_wp2
 simp only [Nat.add_assoc, Nat.reduceAdd]
 rw [HW.out]
 go_loopw [4] (fun i wr => ∃ k : Nat, k <= ds.length /\ i = .int .i64 (k : Int) /\ QL W wr (.slice q ds.length c2) (.slice qb bs.length cb2) ds k) (fun i _ => ds.length - (intOf i).toNat)
 case atStart => exact ⟨0, by omega, rfl, HI.out⟩
 case round =>
  clear HI HW
  obtain ⟨k, hk, rfl, hI⟩ := hrel
  have y0 := S.cell_of wr W.heap.size 0 _ 47 _ hI.b1 rfl
  obtain ⟨out, U, cs, h3, hU, hC, hR⟩ := hI.ex
  obtain ⟨p3, c3, rfl⟩ := own_is hR
  have hs3 := S.lt_of h3
  by_cases hlt : k < ds.length
  ·have i1 : (k : Int) < ds.length := by omega
   have ea := List.getElem?_eq_getElem hlt
   have hnl := HH.out.2.2.2.1 ds[k] (List.getElem_mem _)
   generalize ds[k] = d at *
   obtain ⟨b, o, rfl, hOb, bv, hc, hn⟩ := HH.out.2.1 k d ea
   obtain ⟨q1, d1, rfl, _, _⟩ := hn.ex
   have hB := hI.bel
   obtain ⟨g0, g1, g2, g3, g4, g5⟩ := cells6 fun j x hx => (World.cell?_of_block (w := W) (a := ⟨b, o + k * 6 + j, none⟩) (hB.block b (HH.out.1 b hOb))).trans (hc j x hx)
   obtain ⟨W2, hW2⟩ : ∃ W2, wr.alloc (.cells #[.int .i64 d.k, .string d.nm, .int .u16 d.v, .slice q1 d.body.length d1, .int .i64 d.p.1, .int .i64 d.p.2] 60) = W2 := ⟨_, rfl⟩
   have z1 : Below wr.heap.size wr W2 := by rw [<- hW2]; exact (Below.refl _ _).alloc (Nat.le_refl _) _
   obtain ⟨bx, hbx⟩ : ∃ bx, bx = wr.heap.size := ⟨_, rfl⟩
   have v1 : W2.heap[bx]? = some (.cells (dfc d (.slice q1 d.body.length d1)).toArray 60 (0, 0)) := by rw [hbx, <- hW2]; exact heap_alloc_new wr _
   have hB2 : Below W.heap.size W W2 := hB.trans (z1.mono hB.size)
   have x3 := S.cell_of W2 bx 3 _ 60 _ v1 rfl
   have hcall := own_nodes d.body _ O W2 (fun i hi => Nat.lt_of_lt_of_le (HH.out.1 i hi) hB2.size) (hn.below hB2 HH.out.1) hnl
   have HV := hid (And.intro v1 (And.intro z1 (And.intro hU (And.intro hC (And.intro hR (And.intro h3 hI))))))
   have HX := hid hbx
   have HW2 := hid hW2
   have HE := hid ea
   clear v1 z1 hU hC hR h3 hI hbx hW2 ea hB hB2 hc hn
   go_wp2_with fail
   rw [HW2.out]
   refine hcall.mono ?_
   rintro e w3 ⟨bv, rfl, hwn, k3⟩
   obtain ⟨bb, cb, rfl, _, _⟩ := id hwn.ex
   have v3 := (k3.block _ (S.lt_of HV.out.1)).trans HV.out.1
   rw [<- HX.out]
   have c3' := S.cell_of w3 bx 3 _ 60 _ v3 rfl
   have f3' := S.frozen_of w3 bx 3 _ 60 v3
   have HT := hid (And.intro hwn (And.intro k3 v3))
   clear hwn k3 v3 hcall x3 g0 g1 g2 g3 g4 g5 y0
   go_upto_region 7 with fail
   have vy := S.setCell_heap w3 bx 3 _ 60 (.slice bb d.body.length cb) HT.out.2.2
   have hoy : ∀ i, i ≠ bx -> (w3.setCell ⟨bx, 3, none⟩ (.slice bb d.body.length cb)).heap[i]? = w3.heap[i]? := fun i hi => S.setCell_other _ _ _ _ _ hi
   have hsy : (w3.setCell ⟨bx, 3, none⟩ (.slice bb d.body.length cb)).heap.size = w3.heap.size := S.setCell_size _ _ _
   have hot : (w3.setCell ⟨bx, 3, none⟩ (.slice bb d.body.length cb)).os = w3.os /\ (w3.setCell ⟨bx, 3, none⟩ (.slice bb d.body.length cb)).tape = w3.tape /\ (w3.setCell ⟨bx, 3, none⟩ (.slice bb d.body.length cb)).output = w3.output := ⟨rfl, rfl, rfl⟩
   generalize w3.setCell ⟨bx, 3, none⟩ (.slice bb d.body.length cb) = y3 at *
   have vz : y3.heap[bx]? = some (.cells (dfc d (.slice bb d.body.length cb)).toArray 60 (0, 0)) := vy
   have hsy1 : y3.heap.size <= w3.heap.size := Nat.le_of_eq hsy
   have hsy2 : w3.heap.size <= y3.heap.size := Nat.le_of_eq hsy.symm
   have s23 := HT.out.2.1.size
   have hbx1 : bx < W2.heap.size := S.lt_of HV.out.1
   have hlo : ∀ i, i < bx -> y3.heap[i]? = wr.heap[i]? := fun i hi => (hoy i (by omega)).trans ((HT.out.2.1.block i (by omega)).trans (HV.out.2.1.block i (by rw [<- HX.out]; exact hi)))
   have hb2x : W.heap.size + 2 < bx := by rw [HX.out]; exact hs3
   clear hsy vy c3' f3'
   obtain ⟨x0, x1, x2, x3, x4, x5⟩ := cells6 (W := y3) (b := bx) (o := 0) fun j x hx => by rw [Nat.zero_add]; exact S.cell_of y3 _ j _ 60 x vz hx
   simp only [Nat.zero_add] at x1 x2 x3 x4 x5
   have q0 : y3.cell? ⟨W.heap.size + 2, 0, none⟩ = some (.slice p3 k c3) := S.cell_of y3 _ 0 _ 47 _ ((hlo _ hb2x).trans HV.out.2.2.2.2.2.1) rfl
   obtain ⟨y4, hy4⟩ : ∃ y4, y3.alloc (.cells #[.int .i64 d.k, .string d.nm, .int .u16 d.v, .slice bb d.body.length cb, .int .i64 d.p.1, .int .i64 d.p.2] 60) = y4 := ⟨_, rfl⟩
   have k4 : Below y3.heap.size y3 y4 := by rw [<- hy4]; exact (Below.refl _ _).alloc (Nat.le_refl _) _
   have v4 : y4.heap[y3.heap.size]? = some (.cells (dfc d (.slice bb d.body.length cb)).toArray 60 (0, 0)) := by rw [<- hy4]; exact heap_alloc_new y3 _
   have s34 := k4.size
   have hnb : ∀ g, Value.ownBlock (.slice p3 k c3) = some g -> g < bx := fun g hg => by rw [HX.out]; exact (World.ownsRow.lt HV.out.2.2.2.2.1 g hg).2
   have hl4 : ∀ i, i < bx -> y4.heap[i]? = wr.heap[i]? := fun i hi => (k4.block i (by omega)).trans (hlo i hi)
   have oR : y4.ownsRow (W.heap.size + 3) 60 6 (.slice p3 k c3) k cs := S.own_kept HV.out.2.2.2.2.1 fun g hg _ => hl4 g (hnb g hg)
   have hcs : S.Cs y4 (.slice (some ⟨y3.heap.size, 0, none⟩) 1 1) 6 1 (dfc d (.slice bb d.body.length cb)) := .inr ⟨_, _, rfl, rfl, fun j u hj => by rw [Addr.add_lit, Nat.zero_add]; exact S.cell_of y4 _ j _ _ u v4 hj, dfc_one _ _ ⟨_, _, _, rfl⟩⟩
   have hsz4 : W.heap.size + 3 <= y4.heap.size := by omega
   have hbe4 : Below bx wr y4 := ⟨k4.os.trans (hot.1.trans (HT.out.2.1.os.trans HV.out.2.1.os)), k4.tape.trans (hot.2.1.trans (HT.out.2.1.tape.trans HV.out.2.1.tape)), k4.output.trans (hot.2.2.trans (HT.out.2.1.output.trans HV.out.2.1.output)), by have := HV.out.2.1.size; omega, hl4⟩
   have HU : Hd (∀ i, (U i \/ (W2.heap.size <= i /\ i < w3.heap.size)) -> W.heap.size + 3 <= i /\ i < y4.heap.size /\ Value.ownBlock (.slice p3 k c3) ≠ some i) := hid fun i hi => by
    rcases hi with hi | hi
    ·have h1 := HV.out.2.2.1 i hi
     have h2 := h1.2.1
     rw [<- HX.out] at h2
     exact ⟨h1.1, by omega, h1.2.2⟩
    ·refine ⟨by omega, by omega, fun e => ?_⟩
     have := hnb i e
     omega
   have HC := hid (DC.kept (W' := y4) (O' := fun i => U i \/ (W2.heap.size <= i /\ i < w3.heap.size)) (fun i hi => hl4 i (by rw [HX.out]; exact (HV.out.2.2.1 i hi).2.1)) (fun i hi => .inl hi) HV.out.2.2.2.1)
   have HT4 := hid (NV.kept (W' := y4) (O' := fun i => U i \/ (W2.heap.size <= i /\ i < w3.heap.size)) HT.out.1 (fun i hi => (k4.block i (by omega)).trans (hoy i (by omega))) (fun i hi => .inr hi))
   have HB4 := hid (And.intro hbe4 (And.intro hb2x HV.out.2.2.2.2.2))
   have HY := hid hy4
   have hq4 := (hl4 _ hb2x).trans HV.out.2.2.2.2.2.1
   have HBW := hid (show W.heap.size <= bx by omega)
   clear hlo hl4 hbe4 v4 k4 hy4 hoy hot vz HT HV HW2 hnb s23 hsy1 hsy2
   go_wp2_with (rw [HY.out]; refine S.wpList_append_row y4 rfl _ _ 44 60 _ 6 72 Tryz.underlying44 infoDef rfl (by decide) rfl (W.heap.size + 3) _ k cs rfl oR _ 1 _ rfl hcs (by unfold S.room; omega) (by unfold maxLen; omega) hsz4 (fun v5 w5 hr1 hg1 => ?_); have hq5 := (hg1.block (W.heap.size + 2) (by omega) (fun e => by have := own_ge oR _ e.symm; omega)).trans hq4; have hq6 := S.cell_of w5 (W.heap.size + 2) 0 _ 47 _ hq5 rfl; have hq7 := S.frozen_of w5 (W.heap.size + 2) 0 _ 47 hq5; obtain ⟨p5, c5, hv5⟩ := own_is hr1; subst hv5; have HG := hid (And.intro hr1 (And.intro hg1 hq5)); clear hr1 hg1 hq5)
   have vq := S.setCell_heap w5 (W.heap.size + 2) 0 _ 47 (.slice p5 (k + 1) c5) HG.out.2.2
   have hoq : ∀ i, i ≠ W.heap.size + 2 -> (w5.setCell ⟨W.heap.size + 2, 0, none⟩ (.slice p5 (k + 1) c5)).heap[i]? = w5.heap[i]? := fun i hi => S.setCell_other _ _ _ _ _ hi
   have hbe5 : Below (W.heap.size + 3) y4 w5 := HG.out.2.1.below (fun g hg => own_ge oR g hg) hsz4
   have hl5 : ∀ i, i < W.heap.size + 2 -> (w5.setCell ⟨W.heap.size + 2, 0, none⟩ (.slice p5 (k + 1) c5)).heap[i]? = wr.heap[i]? := fun i hi => (hoq i (by omega)).trans ((hbe5.block i (by omega)).trans (HB4.out.1.block i (by omega)))
   have hgb : ∀ i, (U i \/ (W2.heap.size <= i /\ i < w3.heap.size)) -> (w5.setCell ⟨W.heap.size + 2, 0, none⟩ (.slice p5 (k + 1) c5)).heap[i]? = y4.heap[i]? := fun i hi => (hoq i (by have := (HU.out i hi).1; omega)).trans (HG.out.2.1.block i (HU.out i hi).2.1 (fun e => (HU.out i hi).2.2 e.symm))
   refine ⟨⟨k + 1, by omega, by rw [Int.natCast_add]; rfl, ⟨?_, (hl5 _ (by omega)).trans HB4.out.2.2.2.b1, (hl5 _ (by omega)).trans HB4.out.2.2.2.b2, _, _, _, vq, fun i hi => ⟨(HU.out i hi).1, by rw [S.setCell_size]; exact Nat.lt_of_lt_of_le (HU.out i hi).2.1 HG.out.2.1.size, fun e => ?_⟩, ?_, S.own_kept HG.out.1 fun g hg _ => hoq g (by have := own_ge HG.out.1 g hg; omega)⟩⟩, by simp only [intOf]; omega⟩
   ·refine HB4.out.2.2.2.bel.trans ⟨hbe5.os.trans HB4.out.1.os, hbe5.tape.trans HB4.out.1.tape, hbe5.output.trans HB4.out.1.output, ?_, fun i hi => hl5 i (by omega)⟩
    rw [S.setCell_size]
    exact Nat.le_trans HB4.out.1.size hbe5.size
   ·rcases HG.out.2.1.own with e2 | e2
    ·rw [e2] at e; exact (HU.out i hi).2.2 e
    ·have := e2 i e
     have := (HU.out i hi).2.1
     omega
   ·rw [List.take_add_one, HE.out]
    exact DC.app (HC.out.kept hgb fun _ h => h) ⟨_, [], by simp, HT4.out.kept hgb fun _ h => h, rfl⟩
  ·obtain rfl : k = ds.length := by omega
   have i1 : ¬ (ds.length : Int) < ds.length := by omega
   rw [List.take_length] at hC
   obtain ⟨y8, hy8⟩ : ∃ y8, y8 = wr := ⟨_, rfl⟩
   subst hy8
   have hDV : DV y8 (fun i => W.heap.size + 3 <= i /\ i < y8.heap.size) (.slice p3 ds.length c3) ds := by
    refine ⟨p3, c3, rfl, by omega, fun i d hi => ?_⟩
    rcases hR.2 with ⟨e0, e⟩ | ⟨g, cap, cur, e0, h2, h3', _⟩
    ·have := (List.getElem?_eq_some_iff.1 hi).1
     omega
    ·injection e0 with e1 e2 e3
     subst e1 e3
     obtain ⟨bv, h1, h4⟩ := DC.get hC i d hi
     refine ⟨g, 0, rfl, ⟨h2, S.lt_of h3'⟩, bv, fun j x hx => ?_, h4.kept (fun _ _ => rfl) fun i hi => ⟨(hU i hi).1, (hU i hi).2.1⟩⟩
     have := World.ownsRow.cells hR (g := g) rfl _ x (h1 j x hx)
     rw [Addr.add_lit, Nat.zero_add] at this
     rw [Nat.zero_add]
     exact this
   have hI8 : QB W y8 y8 (.slice p3 ds.length c3) bs 0 := ⟨hI.bel, fun _ _ _ => rfl, Nat.le_refl _, .slice none 0 0, fun _ => False, [], h3, fun _ h => h.elim, rfl, World.ownsRow_nil _ _ _ _⟩
   have hs28 : W.heap.size + 2 < y8.heap.size := S.lt_of h3
   have H8 := hid (And.intro hDV (And.intro hI.b1 (And.intro hI.b2 (And.intro trivial (And.intro trivial (And.intro hI8 (And.intro hI.bel h3)))))))
   clear hDV hI8 hU hC hR h3 hI
   go_wp2
   go_loopw [6] (fun i wz => ∃ k : Nat, k <= bs.length /\ i = .int .i64 (k : Int) /\ QB W y8 wz (.slice p3 ds.length c3) bs k) (fun i _ => bs.length - (intOf i).toNat)
   case atStart => exact ⟨0, by omega, rfl, H8.out.2.2.2.2.2.1⟩
   case round =>
    obtain ⟨k, hk, rfl, hQ⟩ := hrel
    have w1 : wr.heap[W.heap.size]? = _ := (hQ.kp W.heap.size (by omega) (by omega)).trans H8.out.2.1
    have y1c := S.cell_of wr W.heap.size 1 _ 47 _ w1 rfl
    obtain ⟨out, Ub, csb, h3, hU, hC, hR⟩ := hQ.ex
    obtain ⟨pb, cbb, rfl⟩ := own_is hR
    by_cases hlt : k < bs.length
    ·have i2 : (k : Int) < bs.length := by omega
     have ea := List.getElem?_eq_getElem hlt
     have hnl := HH.out.2.2.2.2 bs[k] (List.getElem_mem _)
     generalize bs[k] = d at *
     obtain ⟨bq, oq, rfl, hOq, dvv, ⟨hc0, hc1⟩, hBS⟩ := HH.out.2.2.1 k d ea
     have hBS' := hBS.below hQ.bel HH.out.1
     obtain ⟨qd, cd, rfl⟩ := hBS.ex
     have hmk : ∀ X : World, X.heap[W.heap.size + 2]? = wr.heap[W.heap.size + 2]? -> (∀ i, i < y8.heap.size -> i ≠ W.heap.size + 2 -> X.heap[i]? = wr.heap[i]?) -> (fun wz : World => wz.cell? ⟨W.heap.size + 2, 1, none⟩ = some (.slice pb k cbb) /\ wz.cell? ⟨W.heap.size, 1, none⟩ = some (.slice (some ⟨bq, oq, none⟩) bs.length cb2) /\ wz.cell? ⟨bq, oq + k * 2, none⟩ = some (.int .i64 d.1) /\ wz.cell? ⟨bq, oq + k * 2 + 1, none⟩ = some (.slice qd d.2.length cd)) X := fun X hX hX2 => by
      have hlo : ∀ i, i < W.heap.size -> X.heap[i]? = W.heap[i]? := fun i hi => (hX2 i (by omega) (by omega)).trans (hQ.bel.block i hi)
      exact ⟨S.cell_of X _ 1 _ 47 _ (hX.trans h3) rfl, S.cell_of X _ 1 _ 47 _ ((hX2 W.heap.size (by omega) (by omega)).trans w1) rfl, (World.cell?_of_block (w := W) (a := ⟨bq, oq + k * 2, none⟩) (hlo bq (HH.out.1 bq hOq))).trans hc0, (World.cell?_of_block (w := W) (a := ⟨bq, oq + k * 2 + 1, none⟩) (hlo bq (HH.out.1 bq hOq))).trans hc1⟩
     have HMK := hid hmk
     have HV := hid (And.intro hU (And.intro hC (And.intro hR (And.intro h3 (And.intro hQ (And.intro ea hBS'))))))
     have HB0 := hid (Below.refl wr.heap.size wr).drew
     have hs2 : W.heap.size + 2 < wr.heap.size := S.lt_of h3
     have hs8 := hQ.sz
     clear hmk hU hC hR h3 hQ ea hBS hBS' hc0 hc1 w1
     go_upto_region 11 with fail
     clear y1c
     refine wp_region_drop [20] (S := fun wz : World => wz.cell? ⟨W.heap.size + 2, 1, none⟩ = some (.slice pb k cbb) /\ wz.cell? ⟨W.heap.size, 1, none⟩ = some (.slice (some ⟨bq, oq, none⟩) bs.length cb2) /\ wz.cell? ⟨bq, oq + k * 2, none⟩ = some (.int .i64 d.1) /\ wz.cell? ⟨bq, oq + k * 2 + 1, none⟩ = some (.slice qd d.2.length cd)) (by kernel_rfl) (HMK.out _ (HB0.out.block _ hs2) (fun i hi _ => HB0.out.block i (by omega))) (fun hHeld => ?_)
     generalize wr.drew = z0 at *
     refine D.zD (is := [0, 1, 2, 3, 4, 5, 6, 7, 9, 10, 11, 12, 13, 14]) ?_
     iterate 14
      refine D.yD (v := ?_) rfl (by kernel_rfl) (fun c a w h => h) (by rfl) ?_ hHeld ?_
      rotate_left
      ·(intro w hSw; (try dsimp only at hSw); go_simp; try with_reducible rfl)
      simp only [D.pts]
     refine D.eD ?_
     refine wpD_ready (rs := [8]) (by kernel_rfl) (by simp) ?_
     refine AllD.cons rfl (fun K hK => ?_) AllD.nil
     go_simp
     have kk : Below z0.heap.size z0 (z0.alloc (.cells #[] 5)) := (Below.refl _ _).alloc (Nat.le_refl _) _
     have ow0 := S.own_empty z0 5 1
     generalize z0.alloc (.cells #[] 5) = z1 at *
     obtain ⟨ge, hbn⟩ : ∃ bn, z0.heap.size = bn := ⟨_, rfl⟩
     have HB1 := hid (HB0.out.trans (kk.mono HB0.out.size))
     have ow1 : z1.ownsRow wr.heap.size 5 1 (.slice (some ⟨ge, 0, none⟩) 0 0) 0 [] := by rw [<- hbn]; exact S.own_mono ow0 HB0.out.size
     have hge : wr.heap.size <= ge := by rw [<- hbn]; exact HB0.out.size
     rw [hbn]
     refine hK.out _ _ (HMK.out _ (HB1.out.block _ hs2) (fun i hi _ => HB1.out.block i (by omega))) (fun hHeld => ?_)
     clear hK K hbn ow0 kk HB0
     try simp only [D.pts]
     have hcs := (HV.out.2.2.2.2.2.2.kept (O' := fun _ => True) (fun i hi => HB1.out.block i (Nat.lt_of_lt_of_le (HH.out.1 i hi) (by have := HV.out.2.2.2.2.1.bel.size; omega))) (fun _ _ => trivial)).cs
     refine wpD_ready (rs := [15]) (by kernel_rfl) (by simp) ?_
     refine AllD.cons rfl (fun K hK => ?_) AllD.nil
     rw [if_pos (by rfl)]
     refine S.wp_append_row z1 (.tmp 44) (.tmp 50) 25 5 _ 1 1 Tryz.underlying25 infoU8 rfl (by decide) rfl wr.heap.size _ 0 [] (by simp [Act.eval]) ow1 _ d.2.length (S.en eb d.2) (by simp [Act.eval]) hcs (by unfold S.room; omega) (by unfold maxLen; omega) HB1.out.size (fun vb w2 hr1 hg1 => ?_)
     rw [Nat.zero_add, List.nil_append] at hr1
     obtain ⟨pvb, cvb, hvb⟩ := own_is hr1
     subst hvb
     have k2 : Below wr.heap.size wr w2 := HB1.out.trans (hg1.below (fun g hg => own_ge ow1 g hg) HB1.out.size)
     have hbs2 : BT w2 (fun i => wr.heap.size <= i /\ i < w2.heap.size) (.slice pvb d.2.length cvb) d.2 := ⟨own_bs hr1 (fun g hg => World.ownsRow.lt hr1 g hg), pvb, cvb, rfl, own_cap2 hr1⟩
     have HB2 := hid k2
     have HS2 := hid hbs2
     refine hK.out _ _ (HMK.out _ (HB2.out.block _ hs2) (fun i hi _ => HB2.out.block i (by omega))) (fun hHeld => ?_)
     clear hK K hr1 hg1 hcs ow1 HB1 k2 hbs2
     try simp only [D.pts]
     refine D.xD 16 (v := ?_) rfl (by kernel_rfl) (fun c a w h => h) (by rfl) ?_ hHeld ?_
     rotate_left
     ·(intro w hSw; (try dsimp only at hSw); go_simp; try with_reducible rfl)
     simp only [D.pts]
     refine wpD_ready (rs := [17]) (by kernel_rfl) (by simp) ?_
     refine AllD.cons rfl (fun K hK => ?_) AllD.nil
     go_simp
     have kk : Below w2.heap.size w2 (w2.alloc (.cells #[.int .i64 d.1, .slice pvb d.2.length cvb] 114)) := (Below.refl _ _).alloc (Nat.le_refl _) _
     have hz : (w2.alloc (.cells #[.int .i64 d.1, .slice pvb d.2.length cvb] 114)).heap[w2.heap.size]? = some (.cells #[.int .i64 d.1, .slice pvb d.2.length cvb] 114 (0, 0)) := heap_alloc_new w2 _
     generalize w2.alloc (.cells #[.int .i64 d.1, .slice pvb d.2.length cvb] 114) = z3 at *
     obtain ⟨gn, hbn⟩ : ∃ bn, w2.heap.size = bn := ⟨_, rfl⟩
     have hz1 : z3.heap[gn]? = some (.cells [.int .i64 d.1, .slice pvb d.2.length cvb].toArray 114 (0, 0)) := by rw [<- hbn]; exact hz
     have HB3 := hid (HB2.out.trans (kk.mono HB2.out.size))
     have HS3 := hid (HS2.out.kept (O' := fun i => Ub i \/ (wr.heap.size <= i /\ i < z3.heap.size)) (fun i hi => kk.block i hi.2) (fun i hi => .inr ⟨hi.1, Nat.lt_of_lt_of_le hi.2 kk.size⟩))
     have hcs : S.Cs z3 (.slice (some ⟨gn, 0, none⟩) 1 1) 2 1 [.int .i64 d.1, .slice pvb d.2.length cvb] := .inr ⟨_, _, rfl, rfl, fun j u hj => by rw [Addr.add_lit, Nat.zero_add]; exact S.cell_of z3 _ j _ _ u hz1 hj, by intro u hu; simp at hu; rcases hu with rfl | rfl <;> rfl⟩
     rw [hbn]
     refine hK.out _ _ (HMK.out _ (HB3.out.block _ hs2) (fun i hi _ => HB3.out.block i (by omega))) (fun hHeld => ?_)
     clear hK K hbn hz hz1 kk HB2 HS2
     try simp only [D.pts]
     have oR : z3.ownsRow y8.heap.size 114 2 (.slice pb k cbb) k csb := S.own_kept HV.out.2.2.1 fun g hg hlt => HB3.out.block g hlt
     have hsz3 : y8.heap.size <= z3.heap.size := Nat.le_trans hs8 HB3.out.size
     refine wpD_ready (rs := [18]) (by kernel_rfl) (by simp) ?_
     refine AllD.cons rfl (fun K hK => ?_) AllD.nil
     rw [if_pos (by rfl)]
     refine S.wp_append_row z3 (.tmp 37) (.tmp 53) 45 114 _ 2 32 Tryz.underlying45 infoBk rfl (by decide) rfl y8.heap.size _ k csb (by simp [Act.eval]) oR _ 1 _ (by simp [Act.eval]) hcs (by unfold S.room; omega) (by unfold maxLen; omega) hsz3 (fun v5 w5 hr1 hg1 => ?_)
     obtain ⟨p5, c5', hv5⟩ := own_is hr1
     subst hv5
     have k5 : Below y8.heap.size z3 w5 := hg1.below (fun g hg => own_ge oR g hg) hsz3
     have hl5 : ∀ i, i < y8.heap.size -> w5.heap[i]? = wr.heap[i]? := fun i hi => (k5.block i hi).trans (HB3.out.block i (by omega))
     have HG := hid (And.intro hr1 (And.intro hg1 (And.intro k5 hl5)))
     refine hK.out _ _ (HMK.out _ (hl5 _ (by omega)) (fun i hi _ => hl5 i hi)) (fun hHeld => ?_)
     clear hK K hr1 hg1 hl5 k5
     try simp only [D.pts]
     refine D.xD 19 (v := ?_) rfl (by kernel_rfl) (fun c a w h => h) (by rfl) ?_ hHeld ?_
     rotate_left
     ·(intro w hSw; (try dsimp only at hSw); go_simp; try with_reducible rfl)
     simp only [D.pts]
     have v5 := (HG.out.2.2.2 (W.heap.size + 2) (by omega)).trans HV.out.2.2.2.1
     have e5 := S.cell_of w5 (W.heap.size + 2) 1 _ 47 _ v5 rfl
     have f5 := S.frozen_of w5 (W.heap.size + 2) 1 _ 47 v5
     refine wpD_ready (rs := [20]) (by kernel_rfl) (by simp) ?_
     refine AllD.late rfl (by kernel_rfl) (fun K hK => ?_)
     go_simp
     refine hK.out _ _ ?_
     clear hK K
     try simp only [D.pts]
     refine wpD_done (by kernel_rfl) ?_ _
     have vq := S.setCell_heap w5 (W.heap.size + 2) 1 _ 47 (.slice p5 (k + 1) c5') v5
     have hoq : ∀ i, i ≠ W.heap.size + 2 -> (w5.setCell ⟨W.heap.size + 2, 1, none⟩ (.slice p5 (k + 1) c5')).heap[i]? = w5.heap[i]? := fun i hi => S.setCell_other _ _ _ _ _ hi
     have hsq : (w5.setCell ⟨W.heap.size + 2, 1, none⟩ (.slice p5 (k + 1) c5')).heap.size = w5.heap.size := S.setCell_size _ _ _
     have hot : (w5.setCell ⟨W.heap.size + 2, 1, none⟩ (.slice p5 (k + 1) c5')).os = w5.os /\ (w5.setCell ⟨W.heap.size + 2, 1, none⟩ (.slice p5 (k + 1) c5')).tape = w5.tape /\ (w5.setCell ⟨W.heap.size + 2, 1, none⟩ (.slice p5 (k + 1) c5')).output = w5.output := ⟨rfl, rfl, rfl⟩
     generalize w5.setCell ⟨W.heap.size + 2, 1, none⟩ (.slice p5 (k + 1) c5') = z9 at *
     have hs9a : w5.heap.size <= z9.heap.size := Nat.le_of_eq hsq.symm
     have HZ9 := hid (And.intro vq (And.intro hoq hot))
     clear hsq vq hoq hot e5 f5 v5
     go_wp2
     go_roundw
     case rel =>
      have HUb : ∀ i, (Ub i \/ (wr.heap.size <= i /\ i < z3.heap.size)) -> y8.heap.size <= i /\ i < z3.heap.size /\ Value.ownBlock (.slice pb k cbb) ≠ some i := fun i hi => by
       rcases hi with hi | hi
       ·have h1 := HV.out.1 i hi
        exact ⟨h1.1, Nat.lt_of_lt_of_le h1.2.1 HB3.out.size, h1.2.2⟩
       ·refine ⟨by omega, hi.2, fun e => ?_⟩
        have := (World.ownsRow.lt HV.out.2.2.1 i e).2
        omega
      have hgb : ∀ i, (Ub i \/ (wr.heap.size <= i /\ i < z3.heap.size)) -> z9.heap[i]? = z3.heap[i]? := fun i hi => (HZ9.out.2.1 i (by have := (HUb i hi).1; omega)).trans (HG.out.2.1.block i (HUb i hi).2.1 (fun e => (HUb i hi).2.2 e.symm))
      refine ⟨k + 1, by omega, by go_num, ⟨?_, fun i hi hne => (HZ9.out.2.1 i hne).trans ((HG.out.2.2.2 i hi).trans (HV.out.2.2.2.2.1.kp i hi hne)), by have := HG.out.2.2.1.size; omega, _, _, _, HZ9.out.1, fun i hi => ⟨(HUb i hi).1, Nat.lt_of_lt_of_le (Nat.lt_of_lt_of_le (HUb i hi).2.1 HG.out.2.1.size) hs9a, fun e => ?_⟩, ?_, S.own_kept HG.out.1 fun g hg _ => HZ9.out.2.1 g (by have := own_ge HG.out.1 g hg; omega)⟩⟩
      ·refine HV.out.2.2.2.2.1.bel.trans ⟨HZ9.out.2.2.1.trans (HG.out.2.2.1.os.trans HB3.out.os), HZ9.out.2.2.2.1.trans (HG.out.2.2.1.tape.trans HB3.out.tape), HZ9.out.2.2.2.2.trans (HG.out.2.2.1.output.trans HB3.out.output), Nat.le_trans (Nat.le_trans HB3.out.size HG.out.2.2.1.size) hs9a, fun i hi => (HZ9.out.2.1 i (by omega)).trans (HG.out.2.2.2 i (by omega))⟩
      ·rcases HG.out.2.1.own with e2 | e2
       ·rw [e2] at e; exact (HUb i hi).2.2 e
       ·have := e2 i e
        have := (HUb i hi).2.1
        omega
      ·rw [List.take_add_one, HV.out.2.2.2.2.2.1]
       exact BC.app (BC.kept (W := wr) (W' := z9) (O' := fun i => Ub i \/ (wr.heap.size <= i /\ i < z3.heap.size)) (fun i hi => (hgb i (.inl hi)).trans (HB3.out.block i (HV.out.1 i hi).2.1)) (fun i hi => .inl hi) HV.out.2.1) ⟨_, [], by simp, HS3.out.kept hgb fun _ h => h, rfl⟩
     case measure => simp [intOf]; omega
    ·obtain rfl : k = bs.length := by omega
     have i2 : ¬ (bs.length : Int) < bs.length := by omega
     rw [List.take_length] at hC
     have b2 := (hQ.kp (W.heap.size + 1) (by omega) (by omega)).trans H8.out.2.2.1
     have e0 := S.cell_of wr (W.heap.size + 2) 0 _ 47 _ h3 rfl
     have e1 := S.cell_of wr (W.heap.size + 2) 1 _ 47 _ h3 rfl
     have HV := hid (And.intro hU (And.intro hC (And.intro hR hQ)))
     clear hU hC hR hQ h3 w1
     go_wp2_with (refine wpList_store_row rfl 47 _ _ rfl (W.heap.size + 1) #[.slice p3 ds.length c3, .slice pb bs.length cbb] rfl rfl 47 #[.slice none 0 0, .slice none 0 0] b2 (by kernel_rfl) (by rfl) (by simp [Value.oneCell']) ?_)
     have hg := setRow_heap wr (W.heap.size + 1) _ #[.slice p3 ds.length c3, .slice pb bs.length cbb] _ _ b2
     have hof : ∀ i, i ≠ W.heap.size + 1 -> (wr.setRow (W.heap.size + 1) #[.slice p3 ds.length c3, .slice pb bs.length cbb]).heap[i]? = wr.heap[i]? := fun i hi => setRow_other _ _ i _ hi
     have hbf : Below (W.heap.size + 1) wr (wr.setRow (W.heap.size + 1) #[.slice p3 ds.length c3, .slice pb bs.length cbb]) := ⟨rfl, rfl, rfl, by rw [size_setRow]; exact Nat.le_refl _, fun i hi => hof i (by omega)⟩
     generalize wr.setRow (W.heap.size + 1) #[.slice p3 ds.length c3, .slice pb bs.length cbb] = z6 at *
     have r1 := S.cell_of z6 (W.heap.size + 1) 0 [.slice p3 ds.length c3, .slice pb bs.length cbb] 47 _ hg rfl
     have r2 := S.cell_of z6 (W.heap.size + 1) 1 [.slice p3 ds.length c3, .slice pb bs.length cbb] 47 _ hg rfl
     have hsz := hbf.size
     have hs8 := HV.out.2.2.2.sz
     have hk8 : ∀ i, W.heap.size + 3 <= i -> i < y8.heap.size -> z6.heap[i]? = y8.heap[i]? := fun i h1 h2 => (hof i (by omega)).trans (HV.out.2.2.2.kp i h2 (by omega))
     have hDV6 : DV z6 (fun i => W.heap.size <= i /\ i < z6.heap.size) (.slice p3 ds.length c3) ds := H8.out.1.kept (fun i hi => hk8 i hi.1 hi.2) (fun i hi => ⟨by omega, by have := hi.2; omega⟩)
     have oZ : z6.ownsRow y8.heap.size 114 2 (.slice pb bs.length cbb) bs.length csb := S.own_kept HV.out.2.2.1 fun g hg _ => hof g (by have := own_ge HV.out.2.2.1 g hg; omega)
     have hBB : ∀ (i : Nat) (d : Bk), bs[i]? = some d -> ∃ gz, pb = some ⟨gz, 0, none⟩ /\ (W.heap.size <= gz /\ gz < z6.heap.size) /\ ∃ bv, (z6.cell? ⟨gz, i * 2, none⟩ = some (.int .i64 d.1) /\ z6.cell? ⟨gz, i * 2 + 1, none⟩ = some bv) /\ BT z6 (fun i => W.heap.size <= i /\ i < z6.heap.size) bv d.2 := fun i d hi => by
      obtain ⟨gz, cz, ez⟩ := S.own_pos oZ (by have := (List.getElem?_eq_some_iff.1 hi).1; omega)
      cases ez
      have hlz := World.ownsRow.lt oZ gz rfl
      obtain ⟨bv, h1, h2, h4⟩ := BC.get HV.out.2.1 i d hi
      have q : ∀ (j : Nat) (u : Value), csb[j]? = some u -> z6.cell? ⟨gz, j, none⟩ = some u := fun j u hj => by
       have := World.ownsRow.cells oZ (g := gz) rfl j u hj
       rw [Addr.add_lit, Nat.zero_add] at this
       exact this
      refine ⟨gz, rfl, ⟨by omega, hlz.2⟩, bv, ⟨q _ _ h1, q _ _ h2⟩, h4.kept (fun i hi => hof i (by have := (HV.out.1 i hi).1; omega)) (fun i hi => ?_)⟩
      have := HV.out.1 i hi
      omega
     refine bodyPost_ret (v := .agg #[.slice p3 ds.length c3, .slice pb bs.length cbb]) (by simp [results, Tryz.results15, go_sem, r1, r2]) rfl ⟨_, pb, cbb, rfl, hDV6, ⟨pb, cbb, rfl, fun i d hi => ?_⟩, fun i d hi => ?_, HV.out.2.2.2.bel.trans (hbf.mono (by omega))⟩
     ·obtain ⟨gz, h1, h2, bv, ⟨h3, h4⟩, h5⟩ := hBB i d hi
      exact ⟨gz, 0, h1, h2, bv, ⟨by rw [Nat.zero_add]; exact h3, by rw [Nat.zero_add]; exact h4⟩, h5.1⟩
     ·obtain ⟨gz, h1, h2, bv, ⟨h3, h4⟩, h5⟩ := hBB i d hi
      have := hb2' d (List.mem_of_getElem? hi)
      exact ⟨gz, 0, bv, h1, by rw [Nat.zero_add]; exact h3, by rw [Nat.zero_add]; exact h4, h5.sl, by unfold M.room; omega⟩
end Go.Proofs.YtoemoiehjdmheaaGreat.Y
