import Derived.Test.YtdnklgceghllaaaGreatDoorMPw
import Derived.Test.YtdnklgceghllaaaGreatDoorMP10
namespace Go.Proofs.YtdnklgceghllaaaGreatDoor.M
open Go.RowKit
open Go.Proofs
open Go.Proofs.YtdnklgceghllaaaGreatDoor.Y (Nd Df Ps Bk ndc NV NA N1 cells9 hid)
set_option linter.unusedVariables false
set_option linter.unusedSimpArgs false
set_option maxHeartbeats 4000000
set_option maxRecDepth 100000
def SNp (n : Nd) : Prop := ∀ (W0 : World) (g : Nat) (W : World) (t : List UInt8) (tv ev : Value) (O : Nat -> Prop), W0.heap.size = g -> P10 W0 -> PS W0 g W t -> (∀ i, O i -> i < g) -> NV W0 O tv n.th -> NV W0 O ev n.el -> (∀ w ∈ nw n, w.size <= 100) ->
  Calls Tryz.prog 84 #[.pointer (some ⟨g, 0, none⟩), .agg (ndc n tv ev).toArray] W (PO W0 g (puts t (nw n)) W)
theorem nodes_of (l : List Nd) (hn : ∀ m ∈ l, SNp m) (W0 : World) (g : Nat) (W : World) (t : List UInt8) (v : Value) (O : Nat -> Prop) (hg : W0.heap.size = g) (hT : P10 W0) (h : PS W0 g W t) (hO : ∀ i, O i -> i < g) (hv : NV W0 O v l) (hw : ∀ w ∈ nws l, w.size <= 100) :
  Calls Tryz.prog 49 #[.pointer (some ⟨g, 0, none⟩), v] W (PO W0 g (puts t (nws l)) W) := by
 obtain ⟨p, c, rfl, hl, hp⟩ := hv.ex
 have H0 := hid h
 have HC := hid (And.intro hg (And.intro hT (And.intro hO (And.intro hw hn))))
 have HP := hid hp
 clear h hv hg hT hO hw hn hp
 go_enter Tryz.func49, Tryz.ntmps49
 go_wp2
 go_loopw [8] (fun i wr => ∃ k : Nat, k <= l.length /\ i = .int .i64 (k : Int) /\ PS W0 g wr (puts t (nws (l.take k))) /\ KP g W wr) (fun i _ => l.length - (intOf i).toNat)
 case atStart => exact ⟨0, by omega, rfl, H0.out, KP.refl g W⟩
 case round =>
  obtain ⟨k, hk, rfl, hP, hK⟩ := hrel
  by_cases hlt : k < l.length
  ·have i1 : (k : Int) < l.length := by omega
   have ea := List.getElem?_eq_getElem hlt
   have hm := HC.out.2.2.2.2 l[k] (List.getElem_mem _)
   have hwm : ∀ w ∈ nw l[k], w.size <= 100 := fun w hw => HC.out.2.2.2.1 w (by
    unfold nws
    exact List.mem_flatten.2 ⟨_, List.mem_map.2 ⟨_, List.getElem_mem hlt, rfl⟩, hw⟩)
   have htk := nws_take l k l[k] ea
   generalize l[k] = n at *
   obtain ⟨b, o, rfl, hOb, hN⟩ := HP.out k n ea
   obtain ⟨tv, ev, hc, ht, he⟩ := hN.ex
   obtain ⟨q1, d1, rfl, _, _⟩ := ht.ex
   obtain ⟨q2, d2, rfl, _, _⟩ := he.ex
   have k1 := hP.bel.block b (HC.out.2.2.1 b hOb)
   obtain ⟨g0, g1, g2, g3, g4, g5, g6, g7, g8⟩ := cells9 fun j x hx => (World.cell?_of_block (w := W0) (a := ⟨b, o + k * 9 + j, none⟩) k1).trans (hc j x hx)
   have z1 : Below wr.heap.size wr (wr.alloc (.cells #[.int .i64 n.k, .int .i64 n.op, .int .u16 n.v, .string n.nm, .slice q1 n.th.length d1, .slice q2 n.el.length d2, .bool n.has, .int .i64 n.p.1, .int .i64 n.p.2] 43)) := (Below.refl _ _).alloc (Nat.le_refl _) _
   have v1 : (wr.alloc (.cells #[.int .i64 n.k, .int .i64 n.op, .int .u16 n.v, .string n.nm, .slice q1 n.th.length d1, .slice q2 n.el.length d2, .bool n.has, .int .i64 n.p.1, .int .i64 n.p.2] 43)).heap[wr.heap.size]? = some (.cells (ndc n (.slice q1 n.th.length d1) (.slice q2 n.el.length d2)).toArray 43 (0, 0)) := heap_alloc_new wr _
   generalize hW1 : wr.alloc (.cells #[.int .i64 n.k, .int .i64 n.op, .int .u16 n.v, .string n.nm, .slice q1 n.th.length d1, .slice q2 n.el.length d2, .bool n.has, .int .i64 n.p.1, .int .i64 n.p.2] 43) = W1 at *
   have hcall := hm W0 g W1 (puts t (nws (l.take k))) _ _ O HC.out.1 HC.out.2.1 (hP.next z1) HC.out.2.2.1 ht he hwm
   obtain ⟨x0, x1, x2, x3, x4, x5, x6, x7, x8⟩ := cells9 (b := wr.heap.size) (o := 0) fun j x hx => by rw [Nat.zero_add]; exact S.cell_of W1 _ j _ 43 x v1 hx
   simp only [Nat.zero_add] at x1 x2 x3 x4 x5 x6 x7 x8
   unfold ndc at hcall
   have HH := hid (And.intro (hK.trans (KP.of z1)) htk)
   clear hm hwm hN hc ht he k1 z1 v1 hP hK htk ea hOb
   go_wp2_with fail
   refine hcall.mono ?_
   rintro e w3 ⟨rfl, h3, h4⟩
   have HR := hid (show PS W0 g w3 (puts t (nws (l.take (k + 1)))) /\ KP g W w3 from ⟨by rw [HH.out.2, puts_app]; exact h3, HH.out.1.trans h4⟩)
   clear hcall h3 h4 x0 x1 x2 x3 x4 x5 x6 x7 x8 g0 g1 g2 g3 g4 g5 g6 g7 g8 hW1
   go_wp2
   go_roundw
   case rel => first | exact ⟨k + 1, by omega, by go_num, HR.out.1, HR.out.2⟩ | ((repeat apply Exists.intro); refine ⟨⟨k + 1, by omega, ?_, HR.out.1, HR.out.2⟩, rfl⟩; go_num)
   case measure => simp [intOf]; omega
  ·obtain rfl : k = l.length := by omega
   have i1 : ¬ ((l.length : Nat) : Int) < l.length := by omega
   rw [List.take_length] at hP
   go_wp2
   refine bodyPost_ret (results_none rfl _ _ _) rfl ?_
   exact ⟨rfl, hP, hK⟩
theorem around_of (l : List Nd) (hn : ∀ m ∈ l, SNp m) (W0 : World) (g : Nat) (W : World) (t : List UInt8) (v : Value) (O : Nat -> Prop) (hg : W0.heap.size = g) (hT : P10 W0) (h : PS W0 g W t) (hO : ∀ i, O i -> i < g) (hv : NV W0 O v l) (hw : ∀ w ∈ nws l, w.size <= 100) (a b : ByteArray) (ha : a.size <= 100) (hb : b.size <= 100) :
  Calls Tryz.prog 120 #[.pointer (some ⟨g, 0, none⟩), .string a, v, .string b] W (PO W0 g (puts t ([a] ++ nws l ++ [b])) W) := by
 have hc1 := put_one h a ha
 have HC := hid (fun (w : World) (t' : List UInt8) (h' : PS W0 g w t') => nodes_of l hn W0 g w t' v O hg hT h' hO hv hw)
 have HB := hid hb
 obtain ⟨p, c, rfl, _, _⟩ := hv.ex
 clear h hg hT hO hv hw ha hn hb
 go_enter Tryz.func120, Tryz.ntmps120
 go_wp2_with fail
 refine hc1.mono ?_
 rintro e w1 ⟨rfl, h1, k1⟩
 have hc2 := HC.out w1 _ h1
 have H1 := hid k1
 clear hc1 h1 k1
 go_wp2_with fail
 refine hc2.mono ?_
 rintro e w2 ⟨rfl, h2, k2⟩
 have hc3 := put_one h2 b HB.out
 have H2 := hid (H1.out.trans k2)
 clear hc2 h2 k2
 go_wp2_with fail
 refine hc3.mono ?_
 rintro e w3 ⟨rfl, h3, k3⟩
 rw [<- puts_app, <- puts_app] at h3
 have H3 := hid (And.intro h3 (H2.out.trans k3))
 clear hc3 h3 k3
 go_wp2
 refine bodyPost_ret (results_none rfl _ _ _) rfl ?_
 exact ⟨rfl, H3.out⟩
end Go.Proofs.YtdnklgceghllaaaGreatDoor.M
