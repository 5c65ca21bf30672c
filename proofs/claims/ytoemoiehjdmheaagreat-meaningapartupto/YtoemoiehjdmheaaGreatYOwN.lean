import Derived.Test.YtoemoiehjdmheaaGreatYBank
import Derived.Test.YtoemoiehjdmheaaGreatYOf
import Derived.Test.YtoemoiehjdmheaaGreatYMath
import Derived.Test.YtoemoiehjdmheaaGreatDDrop
namespace Go.Proofs.YtoemoiehjdmheaaGreat.Y
open Go.RowKit
open Go.Proofs
set_option linter.unusedVariables false
set_option linter.unusedSimpArgs false
set_option maxHeartbeats 4000000
set_option maxRecDepth 100000
def WC (W : World) (O : Nat -> Prop) : List Nd -> List Value -> Prop
 | [], cs => cs = []
 | n :: r, cs => ∃ tv ev cs', cs = ndc n tv ev ++ cs' /\ NV W O tv n.th /\ NV W O ev n.el /\ WC W O r cs'
theorem WC.kept {W W' : World} {O O' : Nat -> Prop} (k : ∀ i, O i -> W'.heap[i]? = W.heap[i]?) (m : ∀ i, O i -> O' i) : ∀ {l : List Nd} {cs : List Value}, WC W O l cs -> WC W' O' l cs
 | [], cs, h => h
 | n :: r, cs, h => by
  obtain ⟨tv, ev, cs', e, h1, h2, h3⟩ := h
  exact ⟨tv, ev, cs', e, h1.kept k m, h2.kept k m, WC.kept k m h3⟩
theorem WC.app {W : World} {O : Nat -> Prop} : ∀ {l l' : List Nd} {cs cs' : List Value}, WC W O l cs -> WC W O l' cs' -> WC W O (l ++ l') (cs ++ cs')
 | [], l', cs, cs', h, h' => by rw [WC] at h; subst h; exact h'
 | n :: r, l', cs, cs', h, h' => by
  obtain ⟨tv, ev, cs1, rfl, h1, h2, h3⟩ := h
  exact ⟨tv, ev, cs1 ++ cs', by rw [List.append_assoc], h1, h2, WC.app h3 h'⟩
theorem WC.get {W : World} {O : Nat -> Prop} : ∀ {l : List Nd} {cs : List Value}, WC W O l cs -> ∀ (i : Nat) (n : Nd), l[i]? = some n -> ∃ tv ev, (∀ (j : Nat) (x : Value), (ndc n tv ev)[j]? = some x -> cs[i * 9 + j]? = some x) /\ NV W O tv n.th /\ NV W O ev n.el
 | [], cs, h, i, n, hi => by simp at hi
 | m :: r, cs, h, 0, n, hi => by
  obtain ⟨tv, ev, cs1, rfl, h1, h2, h3⟩ := h
  simp at hi; subst hi
  exact ⟨tv, ev, fun j x hx => by rw [Nat.zero_mul, Nat.zero_add, List.getElem?_append_left (List.getElem?_eq_some_iff.1 hx).1]; exact hx, h1, h2⟩
 | m :: r, cs, h, i + 1, n, hi => by
  obtain ⟨tv, ev, cs1, rfl, h1, h2, h3⟩ := h
  obtain ⟨t, e, hc, ht, he⟩ := WC.get h3 i n (by simpa using hi)
  refine ⟨t, e, fun j x hx => ?_, ht, he⟩
  rw [List.getElem?_append_right (by rw [ndc_len]; omega), ndc_len, show (i + 1) * 9 + j - 9 = i * 9 + j by omega]
  exact hc j x hx
structure OL (W wr : World) (l : List Nd) (k : Nat) (out : Value) : Prop where
 bel : Below W.heap.size W wr
 ex : ∃ (U : Nat -> Prop) (cs : List Value), (∀ i, U i -> W.heap.size <= i /\ i < wr.heap.size /\ out.ownBlock ≠ some i) /\ WC wr U (l.take k) cs /\ wr.ownsRow W.heap.size 90 9 out k cs
def ON (l : List Nd) : Prop := ∀ (v : Value) (O : Nat -> Prop) (W : World), (∀ i, O i -> i < W.heap.size) -> NV W O v l -> nl l <= 1048576 ->
  Calls Tryz.prog 36 #[v] W fun e w' => ∃ v', e = .returned v' /\ NV w' (fun i => W.heap.size <= i /\ i < w'.heap.size) v' l /\ Below W.heap.size W w'
theorem ndc_one (n : Nd) (tv ev : Value) (h1 : ∃ p m c, tv = .slice p m c) (h2 : ∃ p m c, ev = .slice p m c) : ∀ u ∈ ndc n tv ev, u.oneCell' = true := by
 obtain ⟨_, _, _, rfl⟩ := h1
 obtain ⟨_, _, _, rfl⟩ := h2
 intro u hu
 simp only [ndc, List.mem_cons, List.not_mem_nil, or_false] at hu
 rcases hu with rfl | rfl | rfl | rfl | rfl | rfl | rfl | rfl | rfl <;> rfl
theorem own_is {W : World} {B : Nat} {e : TypeId} {size : Nat} {v : Value} {n : Nat} {xs : List Value} (h : W.ownsRow B e size v n xs) : ∃ p c, v = .slice p n c := by
 rcases h.2 with ⟨rfl, rfl⟩ | ⟨g', cap, cur, rfl, h2, _⟩
 ·exact ⟨_, _, rfl⟩
 ·exact ⟨_, _, rfl⟩
theorem own_of (l : List Nd) (hn : ∀ m ∈ l, ON m.th /\ ON m.el) : ON l := by
 intro v O W hO h hsz
 obtain ⟨p, c, rfl, hl, hp⟩ := h.ex
 have hll := nl_len l
 clear h
 go_enter Tryz.func36, Tryz.ntmps36
 go_wp2
 go_loopw [3, 4] (fun s i wr => ∃ k : Nat, k <= l.length /\ i = .int .i64 (k : Int) /\ OL W wr l k s) (fun _ i _ => l.length - (intOf i).toNat)
 case atStart => exact ⟨0, by omega, rfl, Below.refl _ _, fun _ => False, [], fun _ h => h.elim, rfl, World.ownsRow_nil W _ _ _⟩
 case round =>
  obtain ⟨k, hk, rfl, hL⟩ := hrel
  by_cases hlt : k < l.length
  ·have i1 : (k : Int) < l.length := by omega
   have ea := List.getElem?_eq_getElem hlt
   have hm := hn l[k] (List.getElem_mem _)
   have hn1 := nl_th (List.getElem_mem hlt)
   have hn2 := nl_el (List.getElem_mem hlt)
   generalize l[k] = n at *
   obtain ⟨b, o, rfl, hOb, hN⟩ := hp k n ea
   obtain ⟨tv, ev, hc, ht, he⟩ := hN.ex
   obtain ⟨q1, d1, rfl, _, _⟩ := ht.ex
   obtain ⟨q2, d2, rfl, _, _⟩ := he.ex
   have hB := hL.bel
   have k1 := hB.block b (hO b hOb)
   obtain ⟨g0, g1, g2, g3, g4, g5, g6, g7, g8⟩ := cells9 fun j x hx => (World.cell?_of_block (w := W) (a := ⟨b, o + k * 9 + j, none⟩) k1).trans (hc j x hx)
   obtain ⟨W1, hW1⟩ : ∃ W1, wr.alloc (.cells #[.int .i64 n.k, .int .i64 n.op, .int .u16 n.v, .string n.nm, .slice q1 n.th.length d1, .slice q2 n.el.length d2, .bool n.has, .int .i64 n.p.1, .int .i64 n.p.2] 90) = W1 := ⟨_, rfl⟩
   have z1 : Below wr.heap.size wr W1 := by rw [<- hW1]; exact (Below.refl _ _).alloc (Nat.le_refl _) _
   have v1 : W1.heap[wr.heap.size]? = some (.cells (ndc n (.slice q1 n.th.length d1) (.slice q2 n.el.length d2)).toArray 90 (0, 0)) := by rw [<- hW1]; exact heap_alloc_new wr _
   have hB1 : Below W.heap.size W W1 := hB.trans (z1.mono hB.size)
   have hbW : W.heap.size <= wr.heap.size := hB.size
   have hOw : ∀ i, O i -> i < W1.heap.size := fun i hi => Nat.lt_of_lt_of_le (hO i hi) hB1.size
   obtain ⟨U, cs, hU, hC, hR⟩ := hL.ex
   obtain ⟨p3, m3, c3, rfl⟩ := own_slice hR
   have hnb : ∀ g, Value.ownBlock (.slice p3 m3 c3) = some g -> g < wr.heap.size := fun g hg => (World.ownsRow.lt hR g hg).2
   have c4 := S.cell_of W1 _ 4 _ 90 _ v1 rfl
   have hc1 := hm.1 _ O W1 hOw (ht.below hB1 hO) (by omega)
   have HV := hid (And.intro v1 (And.intro (And.intro hL.bel (And.intro z1 (And.intro hU (And.intro hC hR)))) (And.intro hOw (And.intro hB1 (he.below hB1 hO)))))
   have HE := hid ea
   have HN := hid hnb
   have HM := hid hm.2
   have HO := hid hO
   clear z1 v1 hL hU hC hR hB hB1 k1 hp hN hc ht he hn hO ea hOw hnb hOb hm
   go_wp2_with fail
   refine hc1.mono ?_
   rintro e y1 ⟨t1, rfl, hw1, k1⟩
   obtain ⟨bt, ct, rfl, _, _⟩ := id hw1.ex
   clear hc1 hW1 c4 g0 g1 g2 g3 g4 g5 g6 g7 g8
   have vx := (k1.block _ (S.lt_of HV.out.1)).trans HV.out.1
   have c4 := S.cell_of y1 _ 4 _ 90 _ vx rfl
   have f4 := S.frozen_of y1 wr.heap.size 4 _ 90 vx
   obtain ⟨y2, hy2⟩ : ∃ y2, y1.setCell ⟨wr.heap.size, 4, none⟩ (.slice bt n.th.length ct) = y2 := ⟨_, rfl⟩
   have v2 : y2.heap[wr.heap.size]? = some (.cells (ndc n (.slice bt n.th.length ct) (.slice q2 n.el.length d2)).toArray 90 (0, 0)) := by rw [<- hy2]; exact S.setCell_heap y1 _ 4 _ 90 _ vx
   have s2 : y2.heap.size = y1.heap.size := by rw [<- hy2]; exact S.setCell_size _ _ _
   have o2 : ∀ i, i ≠ wr.heap.size -> y2.heap[i]? = y1.heap[i]? := fun i hi => by rw [<- hy2]; exact S.setCell_other _ _ _ _ _ hi
   have q2' : Below wr.heap.size W1 y2 := ⟨by rw [<- hy2]; exact k1.os, by rw [<- hy2]; exact k1.tape, by rw [<- hy2]; exact k1.output, by rw [s2]; exact k1.size, fun i hi => (o2 i (by omega)).trans (k1.block i (by have := S.lt_of HV.out.1; omega))⟩
   have c5 := S.cell_of y2 _ 5 _ 90 _ v2 rfl
   have hBW2 : Below W.heap.size W y2 := HV.out.2.2.2.1.trans (q2'.mono hbW)
   have hOne : ∀ i, O i -> i < wr.heap.size := fun i hi => Nat.lt_of_lt_of_le (HO.out i hi) hbW
   have hc2 := HM.out _ O y2 (fun i hi => by rw [s2]; exact Nat.lt_of_lt_of_le (HV.out.2.2.1 i hi) k1.size) (HV.out.2.2.2.2.kept (fun i hi => (q2'.block i (by have := hOne i hi; omega))) fun _ h => h) (by omega)
   have HK1 := hid (And.intro k1 (And.intro hw1 (And.intro s2 (And.intro o2 (And.intro q2' (And.intro hBW2 v2))))))
   clear hBW2 q2' o2 s2 v2 vx hw1 k1 hOne
   go_wp2_with fail
   refine hc2.mono ?_
   rintro e y3 ⟨t2, rfl, hw2, k3⟩
   obtain ⟨be, ce, rfl, _, _⟩ := id hw2.ex
   clear hc2 c4 f4 c5 hy2
   have vy := (k3.block _ (S.lt_of HK1.out.2.2.2.2.2.2)).trans HK1.out.2.2.2.2.2.2
   have c5 := S.cell_of y3 _ 5 _ 90 _ vy rfl
   have f5 := S.frozen_of y3 wr.heap.size 5 _ 90 vy
   obtain ⟨y4, hy4⟩ : ∃ y4, y3.setCell ⟨wr.heap.size, 5, none⟩ (.slice be n.el.length ce) = y4 := ⟨_, rfl⟩
   have v4 : y4.heap[wr.heap.size]? = some (.cells (ndc n (.slice bt n.th.length ct) (.slice be n.el.length ce)).toArray 90 (0, 0)) := by rw [<- hy4]; exact S.setCell_heap y3 _ 5 _ 90 _ vy
   have s4 : y4.heap.size = y3.heap.size := by rw [<- hy4]; exact S.setCell_size _ _ _
   have o4 : ∀ i, i ≠ wr.heap.size -> y4.heap[i]? = y3.heap[i]? := fun i hi => by rw [<- hy4]; exact S.setCell_other _ _ _ _ _ hi
   have hbx1 : wr.heap.size < W1.heap.size := S.lt_of HV.out.1
   have hs1 := HK1.out.1.size
   have hs2 := HK1.out.2.2.1
   have hs3 := k3.size
   have q4 : Below wr.heap.size W1 y4 := HK1.out.2.2.2.2.1.trans ⟨by rw [<- hy4]; exact k3.os, by rw [<- hy4]; exact k3.tape, by rw [<- hy4]; exact k3.output, by rw [s4]; exact k3.size, fun i hi => (o4 i (by omega)).trans (k3.block i (by omega))⟩
   obtain ⟨x0, x1, x2, x3, x4, x5, x6, x7, x8⟩ := cells9 (W := y4) (b := wr.heap.size) (o := 0) fun j x hx => by rw [Nat.zero_add]; exact S.cell_of y4 _ j _ 90 x v4 hx
   simp only [Nat.zero_add] at x1 x2 x3 x4 x5 x6 x7 x8
   obtain ⟨y5, hy5⟩ : ∃ y5, y4.alloc (.cells #[.int .i64 n.k, .int .i64 n.op, .int .u16 n.v, .string n.nm, .slice bt n.th.length ct, .slice be n.el.length ce, .bool n.has, .int .i64 n.p.1, .int .i64 n.p.2] 90) = y5 := ⟨_, rfl⟩
   have k5 : Below y4.heap.size y4 y5 := by rw [<- hy5]; exact (Below.refl _ _).alloc (Nat.le_refl _) _
   have v5 : y5.heap[y4.heap.size]? = some (.cells (ndc n (.slice bt n.th.length ct) (.slice be n.el.length ce)).toArray 90 (0, 0)) := by rw [<- hy5]; exact heap_alloc_new y4 _
   have s45 := k5.size
   have hall : ∀ i, i < wr.heap.size -> y5.heap[i]? = wr.heap[i]? := fun i hi => (k5.block i (by omega)).trans ((q4.block i hi).trans (HV.out.2.1.2.1.block i hi))
   have hbel : Below wr.heap.size wr y5 := ⟨k5.os.trans (q4.os.trans HV.out.2.1.2.1.os), k5.tape.trans (q4.tape.trans HV.out.2.1.2.1.tape), k5.output.trans (q4.output.trans HV.out.2.1.2.1.output), by omega, hall⟩
   have oR : y5.ownsRow W.heap.size 90 9 (.slice p3 m3 c3) k cs := S.own_kept HV.out.2.1.2.2.2.2 fun g hg _ => hall g (HN.out g hg)
   have hcs : S.Cs y5 (.slice (some ⟨y4.heap.size, 0, none⟩) 1 1) 9 1 (ndc n (.slice bt n.th.length ct) (.slice be n.el.length ce)) := .inr ⟨_, _, rfl, rfl, fun j u hj => by rw [Addr.add_lit, Nat.zero_add]; exact S.cell_of y5 _ j _ _ u v5 hj, ndc_one _ _ _ ⟨_, _, _, rfl⟩ ⟨_, _, _, rfl⟩⟩
   have hsz4 : W.heap.size <= y5.heap.size := by omega
   have HC := hid (WC.kept (W' := y5) (O' := fun i => U i \/ (W1.heap.size <= i /\ i < y3.heap.size)) (fun i hi => hall i (HV.out.2.1.2.2.1 i hi).2.1) (fun i hi => .inl hi) HV.out.2.1.2.2.2.1)
   have HT4 := hid (And.intro (NV.kept (W' := y5) (O' := fun i => U i \/ (W1.heap.size <= i /\ i < y3.heap.size)) HK1.out.2.1 (fun i hi => (k5.block i (by omega)).trans ((o4 i (by omega)).trans ((k3.block i (by omega)).trans (HK1.out.2.2.2.1 i (by omega))))) (fun i hi => .inr ⟨hi.1, by omega⟩)) (NV.kept (W' := y5) (O' := fun i => U i \/ (W1.heap.size <= i /\ i < y3.heap.size)) hw2 (fun i hi => (k5.block i (by omega)).trans (o4 i (by omega))) (fun i hi => .inr ⟨by omega, hi.2⟩)))
   have HY := hid hy5
   have HBL := hid (HV.out.2.1.1.trans (hbel.mono hbW))
   have HU : Hd (∀ i, (U i \/ (W1.heap.size <= i /\ i < y3.heap.size)) -> W.heap.size <= i /\ i < y5.heap.size /\ Value.ownBlock (.slice p3 m3 c3) ≠ some i) := hid fun i hi => by
    rcases hi with hi | hi
    ·have h1 := HV.out.2.1.2.2.1 i hi
     exact ⟨h1.1, by omega, h1.2.2⟩
    ·refine ⟨by omega, by omega, fun e => ?_⟩
     have := HN.out i e
     omega
   clear hall hbel v5 k5 hy5 q4 o4 v4 vy hw2 k3 HV HK1 s4 hs1 hs2 hs3 s45 HM hbx1
   go_wp2_with (rw [HY.out]; refine S.wpList_append_row y5 rfl _ _ 58 90 _ 9 112 Tryz.underlying58 infoNd rfl (by decide) rfl W.heap.size _ k cs rfl oR _ 1 _ rfl hcs (by unfold S.room; omega) (by unfold maxLen; omega) hsz4 (fun v6 w6 hr1 hg1 => ?_); have HG := hid (And.intro hr1 hg1); clear hr1 hg1)
   have hgb : ∀ i, (U i \/ (W1.heap.size <= i /\ i < y3.heap.size)) -> w6.heap[i]? = y5.heap[i]? := fun i hi => HG.out.2.block i (HU.out i hi).2.1 (fun e => (HU.out i hi).2.2 e.symm)
   refine ⟨⟨k + 1, by omega, by rw [Int.natCast_add]; rfl, HBL.out.trans (HG.out.2.below (fun g hg => own_ge oR g hg) hsz4), _, _, fun i hi => ⟨(HU.out i hi).1, Nat.lt_of_lt_of_le (HU.out i hi).2.1 HG.out.2.size, fun e => ?_⟩, ?_, HG.out.1⟩, by simp only [intOf]; omega⟩
   ·rcases HG.out.2.own with e2 | e2
    ·rw [e2] at e; exact (HU.out i hi).2.2 e
    ·have := e2 i e
     have := (HU.out i hi).2.1
     omega
   ·rw [List.take_add_one, HE.out]
    exact WC.app (HC.out.kept hgb fun _ h => h) ⟨_, _, [], by simp, HT4.out.1.kept hgb fun _ h => h, HT4.out.2.kept hgb fun _ h => h, rfl⟩
  ·obtain rfl : k = l.length := by omega
   have i1 : ¬ (l.length : Int) < l.length := by omega
   obtain ⟨U, cs, hU, hC, hR⟩ := hL.ex
   rw [List.take_length] at hC
   obtain ⟨p3, c3, rfl⟩ := own_is hR
   have hN : NV wr (fun i => W.heap.size <= i /\ i < wr.heap.size) (.slice p3 l.length c3) l := by
    rcases hR.2 with ⟨e0, e⟩ | ⟨g, cap, cur, e0, h2, h3, _⟩
    ·have el : l = [] := List.eq_nil_of_length_eq_zero e
     rw [e0, el]
     exact NV.nil (.inl rfl)
    ·injection e0 with e1 e2 e3
     subst e1 e3
     refine NV.row ⟨h2, S.lt_of h3⟩ (by omega) fun i n hi => ?_
     obtain ⟨tv, ev, hc, ht, he⟩ := WC.get hC i n hi
     refine N1.mk tv ev (fun j x hx => ?_) (ht.kept (fun _ _ => rfl) fun i hi => ⟨(hU i hi).1, (hU i hi).2.1⟩) (he.kept (fun _ _ => rfl) fun i hi => ⟨(hU i hi).1, (hU i hi).2.1⟩)
     have := World.ownsRow.cells hR (g := g) rfl _ x (hc j x hx)
     rw [Addr.add_lit, Nat.zero_add] at this
     rw [Nat.zero_add]
     exact this
   have HN := hid (And.intro hN hL.bel)
   clear hU hC hR hL hp hn hO hN
   go_wp2
   go_ret
   exact ⟨_, rfl, HN.out⟩
theorem own_all (n : Nd) : ON n.th /\ ON n.el := Nd.ind (P := fun n => ON n.th /\ ON n.el) (fun n h1 h2 => ⟨own_of n.th h1, own_of n.el h2⟩) n
theorem own_nodes (l : List Nd) : ON l := own_of l fun m _ => own_all m
end Go.Proofs.YtoemoiehjdmheaaGreat.Y
