import Derived.Test.YtdnklgceghllaaaGreatDoorYKit
import Derived.Test.YtdnklgceghllaaaGreatDoorYBank
import Derived.Test.YtdnklgceghllaaaGreatDoorSKit
import Derived.Deep.DeepCutAuto
import Derived.Laws.Strings
namespace Go.Proofs.YtdnklgceghllaaaGreatDoor.M
open Go.RowKit
open Go.Proofs
open Go.Proofs.YtdnklgceghllaaaGreatDoor.Y (Nd Df Ps Bk ndc dfc NV NA N1 ZV hid cells9 cells6 DV D1 BV B1 BS)
set_option linter.unusedVariables false
set_option linter.unusedSimpArgs false
set_option maxHeartbeats 2000000
set_option maxRecDepth 100000
def ap : List (Nd -> Bool) -> List Nd -> Bool
 | [], [] => true
 | f :: fs, n :: ns => f n && ap fs ns
 | _, _ => false
def sm : Nd -> Nd -> Bool
 | ⟨k, op, v, nm, th, el, has, _⟩ => fun n => k == n.k && (op == n.op && (v == n.v && (decide (nm = n.nm) && (has == n.has && (ap (th.map sm) n.th && ap (el.map sm) n.el)))))
def sml (l l' : List Nd) : Bool := ap (l.map sm) l'
theorem sml_nn : sml [] [] = true := rfl
theorem sml_nc (n : Nd) (r : List Nd) : sml [] (n :: r) = false := rfl
theorem sml_cn (n : Nd) (r : List Nd) : sml (n :: r) [] = false := rfl
theorem sml_cc (n n' : Nd) (r r' : List Nd) : sml (n :: r) (n' :: r') = (sm n n' && sml r r') := rfl
theorem sml_len : ∀ (l l' : List Nd), l.length ≠ l'.length -> sml l l' = false
 | [], [], h => by simp at h
 | [], _ :: _, _ => sml_nc _ _
 | _ :: _, [], _ => sml_cn _ _
 | n :: r, n' :: r', h => by rw [sml_cc, sml_len r r' (by simpa using h)]; simp
theorem sml_all : ∀ (l l' : List Nd), l.length = l'.length -> (∀ (i : Nat) a b, l[i]? = some a -> l'[i]? = some b -> sm a b = true) -> sml l l' = true
 | [], [], _, _ => sml_nn
 | [], _ :: _, h, _ => by simp at h
 | _ :: _, [], h, _ => by simp at h
 | n :: r, n' :: r', h, k => by
  rw [sml_cc, k 0 n n' rfl rfl, sml_all r r' (by simpa using h) fun i a b ha hb => k (i + 1) a b (by simpa using ha) (by simpa using hb)]
  rfl
theorem sml_no : ∀ (l l' : List Nd) (i : Nat) (a b : Nd), l[i]? = some a -> l'[i]? = some b -> sm a b = false -> sml l l' = false
 | [], _, i, a, b, h, _, _ => by simp at h
 | _ :: _, [], i, a, b, _, h, _ => by simp at h
 | n :: r, n' :: r', 0, a, b, h, h', e => by
  simp at h h'
  subst h h'
  rw [sml_cc, e]; rfl
 | n :: r, n' :: r', i + 1, a, b, h, h', e => by
  rw [sml_cc, sml_no r r' i a b (by simpa using h) (by simpa using h') e]; simp
def SN (n : Nd) : Prop := ∀ (n' : Nd) (tv ev tv' ev' : Value) (O : Nat -> Prop) (W : World), (∀ i, O i -> i < W.heap.size) -> NV W O tv n.th -> NV W O ev n.el -> NV W O tv' n'.th -> NV W O ev' n'.el ->
  Calls Tryz.prog 90 #[.agg (ndc n tv ev).toArray, .agg (ndc n' tv' ev').toArray] W fun e w' => e = .returned (.bool (sm n n')) /\ Below W.heap.size W w'
theorem equalNodes (l l' : List Nd) (hn : ∀ m ∈ l, SN m) (v v' : Value) (O : Nat -> Prop) (W : World) (hO : ∀ i, O i -> i < W.heap.size) (h : NV W O v l) (h' : NV W O v' l') :
  Calls Tryz.prog 89 #[v, v', .func (.func 90) #[] #[]] W fun e w' => e = .returned (.bool (sml l l')) /\ Below W.heap.size W w' := by
 obtain ⟨p, c, rfl, hl, hp⟩ := h.ex
 obtain ⟨p', c', rfl, hl', hp'⟩ := h'.ex
 clear h h'
 by_cases hll : l.length = l'.length
 ·have HL := hid hll
  have i0 : ((l.length : Int) != (l'.length : Int)) = false := by simp; omega
  clear hll
  go_enter Tryz.func89, Tryz.ntmps89
  go_wp2
  go_loopw [17] (fun i wr => ∃ k : Nat, k <= l.length /\ i = .int .i64 (k : Int) /\ Below W.heap.size W wr /\ (∀ (j : Nat) a b, j < k -> l[j]? = some a -> l'[j]? = some b -> sm a b = true)) (fun i _ => l.length - (intOf i).toNat)
  case atStart => exact ⟨0, by omega, rfl, Below.refl _ _, fun j a b hj => by omega⟩
  case round =>
   obtain ⟨k, hk, rfl, hB, hall⟩ := hrel
   by_cases hlt : k < l.length
   ·have i1 : (k : Int) < l.length := by omega
    have i2 : (k : Int) < l'.length := by have := HL.out; omega
    have hlt' : k < l'.length := by have := HL.out; omega
    have ea := List.getElem?_eq_getElem hlt
    have eb := List.getElem?_eq_getElem hlt'
    have hm := hn l[k] (List.getElem_mem _)
    generalize l[k] = n at *
    generalize l'[k] = m at *
    obtain ⟨b, o, rfl, hOb, hN⟩ := hp k n ea
    obtain ⟨b', o', rfl, hOb', hN'⟩ := hp' k m eb
    obtain ⟨tv, ev, hc, ht, he⟩ := hN.ex
    obtain ⟨tv', ev', hc', ht', he'⟩ := hN'.ex
    obtain ⟨q1, d1, rfl, _, _⟩ := ht.ex
    obtain ⟨q2, d2, rfl, _, _⟩ := he.ex
    obtain ⟨q3, d3, rfl, _, _⟩ := ht'.ex
    obtain ⟨q4, d4, rfl, _, _⟩ := he'.ex
    have k1 := hB.block b (hO b hOb)
    obtain ⟨g0, g1, g2, g3, g4, g5, g6, g7, g8⟩ := cells9 fun j x hx => (World.cell?_of_block (w := W) (a := ⟨b, o + k * 9 + j, none⟩) k1).trans (hc j x hx)
    have z1 : Below wr.heap.size wr (wr.alloc (.cells #[.int .i64 n.k, .int .i64 n.op, .int .u16 n.v, .string n.nm, .slice q1 n.th.length d1, .slice q2 n.el.length d2, .bool n.has, .int .i64 n.p.1, .int .i64 n.p.2] 43)) := (Below.refl _ _).alloc (Nat.le_refl _) _
    have v1 : (wr.alloc (.cells #[.int .i64 n.k, .int .i64 n.op, .int .u16 n.v, .string n.nm, .slice q1 n.th.length d1, .slice q2 n.el.length d2, .bool n.has, .int .i64 n.p.1, .int .i64 n.p.2] 43)).heap[wr.heap.size]? = some (.cells (ndc n (.slice q1 n.th.length d1) (.slice q2 n.el.length d2)).toArray 43 (0, 0)) := heap_alloc_new wr _
    generalize hW1 : wr.alloc (.cells #[.int .i64 n.k, .int .i64 n.op, .int .u16 n.v, .string n.nm, .slice q1 n.th.length d1, .slice q2 n.el.length d2, .bool n.has, .int .i64 n.p.1, .int .i64 n.p.2] 43) = W1 at *
    have hB1 : Below W.heap.size W W1 := hB.trans (z1.mono hB.size)
    have k2 := hB1.block b' (hO b' hOb')
    obtain ⟨f0, f1, f2, f3, f4, f5, f6, f7, f8⟩ := cells9 fun j x hx => (World.cell?_of_block (w := W) (a := ⟨b', o' + k * 9 + j, none⟩) k2).trans (hc' j x hx)
    have z2 : Below W1.heap.size W1 (W1.alloc (.cells #[.int .i64 m.k, .int .i64 m.op, .int .u16 m.v, .string m.nm, .slice q3 m.th.length d3, .slice q4 m.el.length d4, .bool m.has, .int .i64 m.p.1, .int .i64 m.p.2] 43)) := (Below.refl _ _).alloc (Nat.le_refl _) _
    have v2 : (W1.alloc (.cells #[.int .i64 m.k, .int .i64 m.op, .int .u16 m.v, .string m.nm, .slice q3 m.th.length d3, .slice q4 m.el.length d4, .bool m.has, .int .i64 m.p.1, .int .i64 m.p.2] 43)).heap[W1.heap.size]? = some (.cells (ndc m (.slice q3 m.th.length d3) (.slice q4 m.el.length d4)).toArray 43 (0, 0)) := heap_alloc_new W1 _
    have v1' := (z2.block _ (S.lt_of v1)).trans v1
    generalize hW2 : W1.alloc (.cells #[.int .i64 m.k, .int .i64 m.op, .int .u16 m.v, .string m.nm, .slice q3 m.th.length d3, .slice q4 m.el.length d4, .bool m.has, .int .i64 m.p.1, .int .i64 m.p.2] 43) = W2 at *
    have hB2 : Below W.heap.size W W2 := hB1.trans (z2.mono hB1.size)
    have hcall := hm m _ _ _ _ O W2 (fun i hi => Nat.lt_of_lt_of_le (hO i hi) hB2.size) (ht.below hB2 hO) (he.below hB2 hO) (ht'.below hB2 hO) (he'.below hB2 hO)
    obtain ⟨x0, x1, x2, x3, x4, x5, x6, x7, x8⟩ := cells9 (b := wr.heap.size) (o := 0) fun j x hx => by rw [Nat.zero_add]; exact S.cell_of W2 _ j _ 43 x v1' hx
    obtain ⟨y0, y1, y2, y3, y4, y5, y6, y7, y8⟩ := cells9 (b := W1.heap.size) (o := 0) fun j x hx => by rw [Nat.zero_add]; exact S.cell_of W2 _ j _ 43 x v2 hx
    simp only [Nat.zero_add] at x1 x2 x3 x4 x5 x6 x7 x8 y1 y2 y3 y4 y5 y6 y7 y8
    unfold ndc at hcall
    have HH := hid (And.intro hB2 (And.intro hall (And.intro ea eb)))
    clear hm hp hp' hN hN' hc hc' ht he ht' he' k1 k2 z1 z2 v1 v1' v2 hB hB1 hB2 hall hn hO ea eb
    go_wp2_with fail
    refine hcall.mono ?_
    rintro e w3 ⟨rfl, hb3⟩
    have HB3 := hid (HH.out.1.trans (hb3.mono HH.out.1.size))
    clear hcall hb3 x0 x1 x2 x3 x4 x5 x6 x7 x8 y0 y1 y2 y3 y4 y5 y6 y7 y8 g0 g1 g2 g3 g4 g5 g6 g7 g8 f0 f1 f2 f3 f4 f5 f6 f7 f8 hW1 hW2
    cases hs : sm n m with
    | true =>
     have hnew : ∀ (j : Nat) a b, j < k + 1 -> l[j]? = some a -> l'[j]? = some b -> sm a b = true := by
      intro j a b hj ha hb
      by_cases hjk : j < k
      ·exact HH.out.2.1 j a b hjk ha hb
      ·obtain rfl : j = k := by omega
       have e1 := HH.out.2.2.1
       have e2 := HH.out.2.2.2
       rw [ha] at e1
       rw [hb] at e2
       cases e1
       cases e2
       exact hs
     have HN := hid hnew
     clear hnew
     go_wp2
     go_roundw
     case rel =>
      first
       | exact ⟨k + 1, by omega, by go_num, HB3.out, HN.out⟩
       | ((repeat apply Exists.intro); refine ⟨⟨k + 1, by omega, ?_, HB3.out, HN.out⟩, rfl⟩; go_num)
     case measure => simp [intOf]; omega
    | false =>
     go_wp2
     go_ret
     rw [sml_no l l' k n m HH.out.2.2.1 HH.out.2.2.2 hs]
     exact ⟨rfl, HB3.out⟩
   ·have i1 : ¬ (k : Int) < l.length := by omega
    go_wp2
    go_ret
    rw [sml_all l l' HL.out fun i a b ha hb => hall i a b (by have := (List.getElem?_eq_some_iff.1 ha).1; omega) ha hb]
    exact ⟨rfl, hB⟩
 ·have i0 : ((l.length : Int) != (l'.length : Int)) = true := by simp; omega
  go_enter Tryz.func89, Tryz.ntmps89
  go_wp2
  go_ret
  rw [sml_len l l' hll]
  exact ⟨rfl, Below.refl _ _⟩
theorem sameNodes_of (l l' : List Nd) (hn : ∀ m ∈ l, SN m) (v v' : Value) (O : Nat -> Prop) (W : World) (hO : ∀ i, O i -> i < W.heap.size) (h : NV W O v l) (h' : NV W O v' l') :
  Calls Tryz.prog 54 #[v, v'] W fun e w' => e = .returned (.bool (sml l l')) /\ Below W.heap.size W w' := by
 have hc := equalNodes l l' hn v v' O W hO h h'
 clear h h'
 go_enter Tryz.func54, Tryz.ntmps54
 go_wp2_with fail
 refine hc.mono ?_
 rintro e w1 ⟨rfl, hb⟩
 go_wp2
 go_ret
 exact ⟨rfl, hb⟩
theorem toList_inj {a b : ByteArray} (h : a.toList = b.toList) : a = b := by
 rw [ByteArray.toList_eq, ByteArray.toList_eq] at h
 exact ByteArray.ext (Array.toList_inj.1 h)
theorem sm_mk (k op v : Int) (nm : ByteArray) (th el : List Nd) (has : Bool) (p : Ps) (k' op' v' : Int) (nm' : ByteArray) (th' el' : List Nd) (has' : Bool) (p' : Ps) : sm (.mk k op v nm th el has p) (.mk k' op' v' nm' th' el' has' p') = (k == k' && (op == op' && (v == v' && (decide (nm = nm') && (has == has' && (sml th th' && sml el el')))))) := by
 rw [sm]
 rfl
theorem same_0 (k k' : Int) (op op' : Int) (v v' : Int) (nm nm' : ByteArray) (has has' : Bool) (th el th' el' : List Nd) (p p' : Ps) (hne : ¬ k = k') (h1 : ∀ m ∈ th, SN m) (h2 : ∀ m ∈ el, SN m) (q1 q2 q3 q4 : Option Addr) (d1 d2 d3 d4 : Nat) (O : Nat -> Prop) (W : World) (hO : ∀ i, O i -> i < W.heap.size) (ht : NV W O (.slice q1 th.length d1) th) (he : NV W O (.slice q2 el.length d2) el) (ht' : NV W O (.slice q3 th'.length d3) th') (he' : NV W O (.slice q4 el'.length d4) el') :
  Calls Tryz.prog 90 #[.agg #[.int .i64 k, .int .i64 op, .int .u16 v, .string nm, .slice q1 th.length d1, .slice q2 el.length d2, .bool has, .int .i64 p.1, .int .i64 p.2], .agg #[.int .i64 k', .int .i64 op', .int .u16 v', .string nm', .slice q3 th'.length d3, .slice q4 el'.length d4, .bool has', .int .i64 p'.1, .int .i64 p'.2]] W fun e w' => e = .returned (.bool false) /\ Below W.heap.size W w' := by
 have z1 : Below W.heap.size W (W.alloc (.cells #[.int .i64 k, .int .i64 op, .int .u16 v, .string nm, .slice q1 th.length d1, .slice q2 el.length d2, .bool has, .int .i64 p.1, .int .i64 p.2] 43)) := (Below.refl _ _).alloc (Nat.le_refl _) _
 have v1 : (W.alloc (.cells #[.int .i64 k, .int .i64 op, .int .u16 v, .string nm, .slice q1 th.length d1, .slice q2 el.length d2, .bool has, .int .i64 p.1, .int .i64 p.2] 43)).heap[W.heap.size]? = some (.cells (ndc (.mk k op v nm th el has p) (.slice q1 th.length d1) (.slice q2 el.length d2)).toArray 43 (0, 0)) := heap_alloc_new W _
 generalize hW1 : W.alloc (.cells #[.int .i64 k, .int .i64 op, .int .u16 v, .string nm, .slice q1 th.length d1, .slice q2 el.length d2, .bool has, .int .i64 p.1, .int .i64 p.2] 43) = W1 at *
 have z2 : Below W1.heap.size W1 (W1.alloc (.cells #[.int .i64 k', .int .i64 op', .int .u16 v', .string nm', .slice q3 th'.length d3, .slice q4 el'.length d4, .bool has', .int .i64 p'.1, .int .i64 p'.2] 43)) := (Below.refl _ _).alloc (Nat.le_refl _) _
 have v2 : (W1.alloc (.cells #[.int .i64 k', .int .i64 op', .int .u16 v', .string nm', .slice q3 th'.length d3, .slice q4 el'.length d4, .bool has', .int .i64 p'.1, .int .i64 p'.2] 43)).heap[W1.heap.size]? = some (.cells (ndc (.mk k' op' v' nm' th' el' has' p') (.slice q3 th'.length d3) (.slice q4 el'.length d4)).toArray 43 (0, 0)) := heap_alloc_new W1 _
 have v1' := (z2.block _ (S.lt_of v1)).trans v1
 generalize hW2 : W1.alloc (.cells #[.int .i64 k', .int .i64 op', .int .u16 v', .string nm', .slice q3 th'.length d3, .slice q4 el'.length d4, .bool has', .int .i64 p'.1, .int .i64 p'.2] 43) = W2 at *
 have hB2 : Below W.heap.size W W2 := z1.trans (z2.mono z1.size)
 have hO2 : ∀ i, O i -> i < W2.heap.size := fun i hi => Nat.lt_of_lt_of_le (hO i hi) hB2.size
 have c1 := sameNodes_of th th' h1 _ _ O W2 hO2 (ht.below hB2 hO) (ht'.below hB2 hO)
 obtain ⟨x0, x1, x2, x3, x4, x5, x6, x7, x8⟩ := cells9 (b := W.heap.size) (o := 0) fun j x hx => by rw [Nat.zero_add]; exact S.cell_of W2 _ j _ 43 x v1' hx
 obtain ⟨y0, y1, y2, y3, y4, y5, y6, y7, y8⟩ := cells9 (b := W1.heap.size) (o := 0) fun j x hx => by rw [Nat.zero_add]; exact S.cell_of W2 _ j _ 43 x v2 hx
 simp only [Nat.zero_add, Nd.k, Nd.op, Nd.v, Nd.nm, Nd.has, Nd.p] at x0 x1 x2 x3 x4 x5 x6 x7 x8 y0 y1 y2 y3 y4 y5 y6 y7 y8
 have HH := hid (And.intro hB2 (And.intro hO2 (And.intro v1' v2)))
 have HE := hid (And.intro (he.below hB2 hO) (he'.below hB2 hO))
 clear ht he ht' he' z1 z2 v1 v1' v2 hB2 hO2 hO h1
 have b0 : (k == k') = false := by rw [Bool.eq_false_iff]; intro c; exact hne (by simpa using c)
 have b1 : decide (k = k') = false := decide_eq_false hne
 clear c1 h2 HE
 go_enter Tryz.func90, Tryz.ntmps90
 go_wp2
 go_ret
 exact ⟨by simp, HH.out.1⟩
theorem same_1 (k : Int) (op op' : Int) (v v' : Int) (nm nm' : ByteArray) (has has' : Bool) (th el th' el' : List Nd) (p p' : Ps) (hne : ¬ op = op') (h1 : ∀ m ∈ th, SN m) (h2 : ∀ m ∈ el, SN m) (q1 q2 q3 q4 : Option Addr) (d1 d2 d3 d4 : Nat) (O : Nat -> Prop) (W : World) (hO : ∀ i, O i -> i < W.heap.size) (ht : NV W O (.slice q1 th.length d1) th) (he : NV W O (.slice q2 el.length d2) el) (ht' : NV W O (.slice q3 th'.length d3) th') (he' : NV W O (.slice q4 el'.length d4) el') :
  Calls Tryz.prog 90 #[.agg #[.int .i64 k, .int .i64 op, .int .u16 v, .string nm, .slice q1 th.length d1, .slice q2 el.length d2, .bool has, .int .i64 p.1, .int .i64 p.2], .agg #[.int .i64 k, .int .i64 op', .int .u16 v', .string nm', .slice q3 th'.length d3, .slice q4 el'.length d4, .bool has', .int .i64 p'.1, .int .i64 p'.2]] W fun e w' => e = .returned (.bool false) /\ Below W.heap.size W w' := by
 have z1 : Below W.heap.size W (W.alloc (.cells #[.int .i64 k, .int .i64 op, .int .u16 v, .string nm, .slice q1 th.length d1, .slice q2 el.length d2, .bool has, .int .i64 p.1, .int .i64 p.2] 43)) := (Below.refl _ _).alloc (Nat.le_refl _) _
 have v1 : (W.alloc (.cells #[.int .i64 k, .int .i64 op, .int .u16 v, .string nm, .slice q1 th.length d1, .slice q2 el.length d2, .bool has, .int .i64 p.1, .int .i64 p.2] 43)).heap[W.heap.size]? = some (.cells (ndc (.mk k op v nm th el has p) (.slice q1 th.length d1) (.slice q2 el.length d2)).toArray 43 (0, 0)) := heap_alloc_new W _
 generalize hW1 : W.alloc (.cells #[.int .i64 k, .int .i64 op, .int .u16 v, .string nm, .slice q1 th.length d1, .slice q2 el.length d2, .bool has, .int .i64 p.1, .int .i64 p.2] 43) = W1 at *
 have z2 : Below W1.heap.size W1 (W1.alloc (.cells #[.int .i64 k, .int .i64 op', .int .u16 v', .string nm', .slice q3 th'.length d3, .slice q4 el'.length d4, .bool has', .int .i64 p'.1, .int .i64 p'.2] 43)) := (Below.refl _ _).alloc (Nat.le_refl _) _
 have v2 : (W1.alloc (.cells #[.int .i64 k, .int .i64 op', .int .u16 v', .string nm', .slice q3 th'.length d3, .slice q4 el'.length d4, .bool has', .int .i64 p'.1, .int .i64 p'.2] 43)).heap[W1.heap.size]? = some (.cells (ndc (.mk k op' v' nm' th' el' has' p') (.slice q3 th'.length d3) (.slice q4 el'.length d4)).toArray 43 (0, 0)) := heap_alloc_new W1 _
 have v1' := (z2.block _ (S.lt_of v1)).trans v1
 generalize hW2 : W1.alloc (.cells #[.int .i64 k, .int .i64 op', .int .u16 v', .string nm', .slice q3 th'.length d3, .slice q4 el'.length d4, .bool has', .int .i64 p'.1, .int .i64 p'.2] 43) = W2 at *
 have hB2 : Below W.heap.size W W2 := z1.trans (z2.mono z1.size)
 have hO2 : ∀ i, O i -> i < W2.heap.size := fun i hi => Nat.lt_of_lt_of_le (hO i hi) hB2.size
 have c1 := sameNodes_of th th' h1 _ _ O W2 hO2 (ht.below hB2 hO) (ht'.below hB2 hO)
 obtain ⟨x0, x1, x2, x3, x4, x5, x6, x7, x8⟩ := cells9 (b := W.heap.size) (o := 0) fun j x hx => by rw [Nat.zero_add]; exact S.cell_of W2 _ j _ 43 x v1' hx
 obtain ⟨y0, y1, y2, y3, y4, y5, y6, y7, y8⟩ := cells9 (b := W1.heap.size) (o := 0) fun j x hx => by rw [Nat.zero_add]; exact S.cell_of W2 _ j _ 43 x v2 hx
 simp only [Nat.zero_add, Nd.k, Nd.op, Nd.v, Nd.nm, Nd.has, Nd.p] at x0 x1 x2 x3 x4 x5 x6 x7 x8 y0 y1 y2 y3 y4 y5 y6 y7 y8
 have HH := hid (And.intro hB2 (And.intro hO2 (And.intro v1' v2)))
 have HE := hid (And.intro (he.below hB2 hO) (he'.below hB2 hO))
 clear ht he ht' he' z1 z2 v1 v1' v2 hB2 hO2 hO h1
 have b0 : (op == op') = false := by rw [Bool.eq_false_iff]; intro c; exact hne (by simpa using c)
 have b1 : decide (op = op') = false := decide_eq_false hne
 clear c1 h2 HE
 go_enter Tryz.func90, Tryz.ntmps90
 go_wp2
 go_ret
 exact ⟨by simp, HH.out.1⟩
theorem same_2 (k : Int) (op : Int) (v v' : Int) (nm nm' : ByteArray) (has has' : Bool) (th el th' el' : List Nd) (p p' : Ps) (hne : ¬ v = v') (h1 : ∀ m ∈ th, SN m) (h2 : ∀ m ∈ el, SN m) (q1 q2 q3 q4 : Option Addr) (d1 d2 d3 d4 : Nat) (O : Nat -> Prop) (W : World) (hO : ∀ i, O i -> i < W.heap.size) (ht : NV W O (.slice q1 th.length d1) th) (he : NV W O (.slice q2 el.length d2) el) (ht' : NV W O (.slice q3 th'.length d3) th') (he' : NV W O (.slice q4 el'.length d4) el') :
  Calls Tryz.prog 90 #[.agg #[.int .i64 k, .int .i64 op, .int .u16 v, .string nm, .slice q1 th.length d1, .slice q2 el.length d2, .bool has, .int .i64 p.1, .int .i64 p.2], .agg #[.int .i64 k, .int .i64 op, .int .u16 v', .string nm', .slice q3 th'.length d3, .slice q4 el'.length d4, .bool has', .int .i64 p'.1, .int .i64 p'.2]] W fun e w' => e = .returned (.bool false) /\ Below W.heap.size W w' := by
 have z1 : Below W.heap.size W (W.alloc (.cells #[.int .i64 k, .int .i64 op, .int .u16 v, .string nm, .slice q1 th.length d1, .slice q2 el.length d2, .bool has, .int .i64 p.1, .int .i64 p.2] 43)) := (Below.refl _ _).alloc (Nat.le_refl _) _
 have v1 : (W.alloc (.cells #[.int .i64 k, .int .i64 op, .int .u16 v, .string nm, .slice q1 th.length d1, .slice q2 el.length d2, .bool has, .int .i64 p.1, .int .i64 p.2] 43)).heap[W.heap.size]? = some (.cells (ndc (.mk k op v nm th el has p) (.slice q1 th.length d1) (.slice q2 el.length d2)).toArray 43 (0, 0)) := heap_alloc_new W _
 generalize hW1 : W.alloc (.cells #[.int .i64 k, .int .i64 op, .int .u16 v, .string nm, .slice q1 th.length d1, .slice q2 el.length d2, .bool has, .int .i64 p.1, .int .i64 p.2] 43) = W1 at *
 have z2 : Below W1.heap.size W1 (W1.alloc (.cells #[.int .i64 k, .int .i64 op, .int .u16 v', .string nm', .slice q3 th'.length d3, .slice q4 el'.length d4, .bool has', .int .i64 p'.1, .int .i64 p'.2] 43)) := (Below.refl _ _).alloc (Nat.le_refl _) _
 have v2 : (W1.alloc (.cells #[.int .i64 k, .int .i64 op, .int .u16 v', .string nm', .slice q3 th'.length d3, .slice q4 el'.length d4, .bool has', .int .i64 p'.1, .int .i64 p'.2] 43)).heap[W1.heap.size]? = some (.cells (ndc (.mk k op v' nm' th' el' has' p') (.slice q3 th'.length d3) (.slice q4 el'.length d4)).toArray 43 (0, 0)) := heap_alloc_new W1 _
 have v1' := (z2.block _ (S.lt_of v1)).trans v1
 generalize hW2 : W1.alloc (.cells #[.int .i64 k, .int .i64 op, .int .u16 v', .string nm', .slice q3 th'.length d3, .slice q4 el'.length d4, .bool has', .int .i64 p'.1, .int .i64 p'.2] 43) = W2 at *
 have hB2 : Below W.heap.size W W2 := z1.trans (z2.mono z1.size)
 have hO2 : ∀ i, O i -> i < W2.heap.size := fun i hi => Nat.lt_of_lt_of_le (hO i hi) hB2.size
 have c1 := sameNodes_of th th' h1 _ _ O W2 hO2 (ht.below hB2 hO) (ht'.below hB2 hO)
 obtain ⟨x0, x1, x2, x3, x4, x5, x6, x7, x8⟩ := cells9 (b := W.heap.size) (o := 0) fun j x hx => by rw [Nat.zero_add]; exact S.cell_of W2 _ j _ 43 x v1' hx
 obtain ⟨y0, y1, y2, y3, y4, y5, y6, y7, y8⟩ := cells9 (b := W1.heap.size) (o := 0) fun j x hx => by rw [Nat.zero_add]; exact S.cell_of W2 _ j _ 43 x v2 hx
 simp only [Nat.zero_add, Nd.k, Nd.op, Nd.v, Nd.nm, Nd.has, Nd.p] at x0 x1 x2 x3 x4 x5 x6 x7 x8 y0 y1 y2 y3 y4 y5 y6 y7 y8
 have HH := hid (And.intro hB2 (And.intro hO2 (And.intro v1' v2)))
 have HE := hid (And.intro (he.below hB2 hO) (he'.below hB2 hO))
 clear ht he ht' he' z1 z2 v1 v1' v2 hB2 hO2 hO h1
 have b0 : (v == v') = false := by rw [Bool.eq_false_iff]; intro c; exact hne (by simpa using c)
 have b1 : decide (v = v') = false := decide_eq_false hne
 clear c1 h2 HE
 go_enter Tryz.func90, Tryz.ntmps90
 go_wp2
 go_ret
 exact ⟨by simp, HH.out.1⟩
theorem same_3 (k : Int) (op : Int) (v : Int) (nm nm' : ByteArray) (has has' : Bool) (th el th' el' : List Nd) (p p' : Ps) (hne : ¬ nm = nm') (h1 : ∀ m ∈ th, SN m) (h2 : ∀ m ∈ el, SN m) (q1 q2 q3 q4 : Option Addr) (d1 d2 d3 d4 : Nat) (O : Nat -> Prop) (W : World) (hO : ∀ i, O i -> i < W.heap.size) (ht : NV W O (.slice q1 th.length d1) th) (he : NV W O (.slice q2 el.length d2) el) (ht' : NV W O (.slice q3 th'.length d3) th') (he' : NV W O (.slice q4 el'.length d4) el') :
  Calls Tryz.prog 90 #[.agg #[.int .i64 k, .int .i64 op, .int .u16 v, .string nm, .slice q1 th.length d1, .slice q2 el.length d2, .bool has, .int .i64 p.1, .int .i64 p.2], .agg #[.int .i64 k, .int .i64 op, .int .u16 v, .string nm', .slice q3 th'.length d3, .slice q4 el'.length d4, .bool has', .int .i64 p'.1, .int .i64 p'.2]] W fun e w' => e = .returned (.bool false) /\ Below W.heap.size W w' := by
 have z1 : Below W.heap.size W (W.alloc (.cells #[.int .i64 k, .int .i64 op, .int .u16 v, .string nm, .slice q1 th.length d1, .slice q2 el.length d2, .bool has, .int .i64 p.1, .int .i64 p.2] 43)) := (Below.refl _ _).alloc (Nat.le_refl _) _
 have v1 : (W.alloc (.cells #[.int .i64 k, .int .i64 op, .int .u16 v, .string nm, .slice q1 th.length d1, .slice q2 el.length d2, .bool has, .int .i64 p.1, .int .i64 p.2] 43)).heap[W.heap.size]? = some (.cells (ndc (.mk k op v nm th el has p) (.slice q1 th.length d1) (.slice q2 el.length d2)).toArray 43 (0, 0)) := heap_alloc_new W _
 generalize hW1 : W.alloc (.cells #[.int .i64 k, .int .i64 op, .int .u16 v, .string nm, .slice q1 th.length d1, .slice q2 el.length d2, .bool has, .int .i64 p.1, .int .i64 p.2] 43) = W1 at *
 have z2 : Below W1.heap.size W1 (W1.alloc (.cells #[.int .i64 k, .int .i64 op, .int .u16 v, .string nm', .slice q3 th'.length d3, .slice q4 el'.length d4, .bool has', .int .i64 p'.1, .int .i64 p'.2] 43)) := (Below.refl _ _).alloc (Nat.le_refl _) _
 have v2 : (W1.alloc (.cells #[.int .i64 k, .int .i64 op, .int .u16 v, .string nm', .slice q3 th'.length d3, .slice q4 el'.length d4, .bool has', .int .i64 p'.1, .int .i64 p'.2] 43)).heap[W1.heap.size]? = some (.cells (ndc (.mk k op v nm' th' el' has' p') (.slice q3 th'.length d3) (.slice q4 el'.length d4)).toArray 43 (0, 0)) := heap_alloc_new W1 _
 have v1' := (z2.block _ (S.lt_of v1)).trans v1
 generalize hW2 : W1.alloc (.cells #[.int .i64 k, .int .i64 op, .int .u16 v, .string nm', .slice q3 th'.length d3, .slice q4 el'.length d4, .bool has', .int .i64 p'.1, .int .i64 p'.2] 43) = W2 at *
 have hB2 : Below W.heap.size W W2 := z1.trans (z2.mono z1.size)
 have hO2 : ∀ i, O i -> i < W2.heap.size := fun i hi => Nat.lt_of_lt_of_le (hO i hi) hB2.size
 have c1 := sameNodes_of th th' h1 _ _ O W2 hO2 (ht.below hB2 hO) (ht'.below hB2 hO)
 obtain ⟨x0, x1, x2, x3, x4, x5, x6, x7, x8⟩ := cells9 (b := W.heap.size) (o := 0) fun j x hx => by rw [Nat.zero_add]; exact S.cell_of W2 _ j _ 43 x v1' hx
 obtain ⟨y0, y1, y2, y3, y4, y5, y6, y7, y8⟩ := cells9 (b := W1.heap.size) (o := 0) fun j x hx => by rw [Nat.zero_add]; exact S.cell_of W2 _ j _ 43 x v2 hx
 simp only [Nat.zero_add, Nd.k, Nd.op, Nd.v, Nd.nm, Nd.has, Nd.p] at x0 x1 x2 x3 x4 x5 x6 x7 x8 y0 y1 y2 y3 y4 y5 y6 y7 y8
 have HH := hid (And.intro hB2 (And.intro hO2 (And.intro v1' v2)))
 have HE := hid (And.intro (he.below hB2 hO) (he'.below hB2 hO))
 clear ht he ht' he' z1 z2 v1 v1' v2 hB2 hO2 hO h1
 have b1 : decide (nm = nm') = false := decide_eq_false hne
 have b2 : ¬ nm.toList = nm'.toList := fun c => hne (toList_inj c)
 clear c1 h2 HE
 go_enter Tryz.func90, Tryz.ntmps90
 go_wp2
 go_ret
 exact ⟨by simp, HH.out.1⟩
theorem same_4 (k : Int) (op : Int) (v : Int) (nm : ByteArray) (has has' : Bool) (th el th' el' : List Nd) (p p' : Ps) (hne : ¬ has = has') (h1 : ∀ m ∈ th, SN m) (h2 : ∀ m ∈ el, SN m) (q1 q2 q3 q4 : Option Addr) (d1 d2 d3 d4 : Nat) (O : Nat -> Prop) (W : World) (hO : ∀ i, O i -> i < W.heap.size) (ht : NV W O (.slice q1 th.length d1) th) (he : NV W O (.slice q2 el.length d2) el) (ht' : NV W O (.slice q3 th'.length d3) th') (he' : NV W O (.slice q4 el'.length d4) el') :
  Calls Tryz.prog 90 #[.agg #[.int .i64 k, .int .i64 op, .int .u16 v, .string nm, .slice q1 th.length d1, .slice q2 el.length d2, .bool has, .int .i64 p.1, .int .i64 p.2], .agg #[.int .i64 k, .int .i64 op, .int .u16 v, .string nm, .slice q3 th'.length d3, .slice q4 el'.length d4, .bool has', .int .i64 p'.1, .int .i64 p'.2]] W fun e w' => e = .returned (.bool false) /\ Below W.heap.size W w' := by
 have z1 : Below W.heap.size W (W.alloc (.cells #[.int .i64 k, .int .i64 op, .int .u16 v, .string nm, .slice q1 th.length d1, .slice q2 el.length d2, .bool has, .int .i64 p.1, .int .i64 p.2] 43)) := (Below.refl _ _).alloc (Nat.le_refl _) _
 have v1 : (W.alloc (.cells #[.int .i64 k, .int .i64 op, .int .u16 v, .string nm, .slice q1 th.length d1, .slice q2 el.length d2, .bool has, .int .i64 p.1, .int .i64 p.2] 43)).heap[W.heap.size]? = some (.cells (ndc (.mk k op v nm th el has p) (.slice q1 th.length d1) (.slice q2 el.length d2)).toArray 43 (0, 0)) := heap_alloc_new W _
 generalize hW1 : W.alloc (.cells #[.int .i64 k, .int .i64 op, .int .u16 v, .string nm, .slice q1 th.length d1, .slice q2 el.length d2, .bool has, .int .i64 p.1, .int .i64 p.2] 43) = W1 at *
 have z2 : Below W1.heap.size W1 (W1.alloc (.cells #[.int .i64 k, .int .i64 op, .int .u16 v, .string nm, .slice q3 th'.length d3, .slice q4 el'.length d4, .bool has', .int .i64 p'.1, .int .i64 p'.2] 43)) := (Below.refl _ _).alloc (Nat.le_refl _) _
 have v2 : (W1.alloc (.cells #[.int .i64 k, .int .i64 op, .int .u16 v, .string nm, .slice q3 th'.length d3, .slice q4 el'.length d4, .bool has', .int .i64 p'.1, .int .i64 p'.2] 43)).heap[W1.heap.size]? = some (.cells (ndc (.mk k op v nm th' el' has' p') (.slice q3 th'.length d3) (.slice q4 el'.length d4)).toArray 43 (0, 0)) := heap_alloc_new W1 _
 have v1' := (z2.block _ (S.lt_of v1)).trans v1
 generalize hW2 : W1.alloc (.cells #[.int .i64 k, .int .i64 op, .int .u16 v, .string nm, .slice q3 th'.length d3, .slice q4 el'.length d4, .bool has', .int .i64 p'.1, .int .i64 p'.2] 43) = W2 at *
 have hB2 : Below W.heap.size W W2 := z1.trans (z2.mono z1.size)
 have hO2 : ∀ i, O i -> i < W2.heap.size := fun i hi => Nat.lt_of_lt_of_le (hO i hi) hB2.size
 have c1 := sameNodes_of th th' h1 _ _ O W2 hO2 (ht.below hB2 hO) (ht'.below hB2 hO)
 obtain ⟨x0, x1, x2, x3, x4, x5, x6, x7, x8⟩ := cells9 (b := W.heap.size) (o := 0) fun j x hx => by rw [Nat.zero_add]; exact S.cell_of W2 _ j _ 43 x v1' hx
 obtain ⟨y0, y1, y2, y3, y4, y5, y6, y7, y8⟩ := cells9 (b := W1.heap.size) (o := 0) fun j x hx => by rw [Nat.zero_add]; exact S.cell_of W2 _ j _ 43 x v2 hx
 simp only [Nat.zero_add, Nd.k, Nd.op, Nd.v, Nd.nm, Nd.has, Nd.p] at x0 x1 x2 x3 x4 x5 x6 x7 x8 y0 y1 y2 y3 y4 y5 y6 y7 y8
 have HH := hid (And.intro hB2 (And.intro hO2 (And.intro v1' v2)))
 have HE := hid (And.intro (he.below hB2 hO) (he'.below hB2 hO))
 clear ht he ht' he' z1 z2 v1 v1' v2 hB2 hO2 hO h1
 have b0 : (has == has') = false := by rw [Bool.eq_false_iff]; intro c; exact hne (by simpa using c)
 have b1 : decide (has = has') = false := decide_eq_false hne
 clear c1 h2 HE
 go_enter Tryz.func90, Tryz.ntmps90
 go_wp2
 go_ret
 exact ⟨by simp, HH.out.1⟩
theorem same_5 (k : Int) (op : Int) (v : Int) (nm : ByteArray) (has : Bool) (th el th' el' : List Nd) (p p' : Ps)  (h1 : ∀ m ∈ th, SN m) (h2 : ∀ m ∈ el, SN m) (q1 q2 q3 q4 : Option Addr) (d1 d2 d3 d4 : Nat) (O : Nat -> Prop) (W : World) (hO : ∀ i, O i -> i < W.heap.size) (ht : NV W O (.slice q1 th.length d1) th) (he : NV W O (.slice q2 el.length d2) el) (ht' : NV W O (.slice q3 th'.length d3) th') (he' : NV W O (.slice q4 el'.length d4) el') :
  Calls Tryz.prog 90 #[.agg #[.int .i64 k, .int .i64 op, .int .u16 v, .string nm, .slice q1 th.length d1, .slice q2 el.length d2, .bool has, .int .i64 p.1, .int .i64 p.2], .agg #[.int .i64 k, .int .i64 op, .int .u16 v, .string nm, .slice q3 th'.length d3, .slice q4 el'.length d4, .bool has, .int .i64 p'.1, .int .i64 p'.2]] W fun e w' => e = .returned (.bool (sml th th' && sml el el')) /\ Below W.heap.size W w' := by
 have z1 : Below W.heap.size W (W.alloc (.cells #[.int .i64 k, .int .i64 op, .int .u16 v, .string nm, .slice q1 th.length d1, .slice q2 el.length d2, .bool has, .int .i64 p.1, .int .i64 p.2] 43)) := (Below.refl _ _).alloc (Nat.le_refl _) _
 have v1 : (W.alloc (.cells #[.int .i64 k, .int .i64 op, .int .u16 v, .string nm, .slice q1 th.length d1, .slice q2 el.length d2, .bool has, .int .i64 p.1, .int .i64 p.2] 43)).heap[W.heap.size]? = some (.cells (ndc (.mk k op v nm th el has p) (.slice q1 th.length d1) (.slice q2 el.length d2)).toArray 43 (0, 0)) := heap_alloc_new W _
 generalize hW1 : W.alloc (.cells #[.int .i64 k, .int .i64 op, .int .u16 v, .string nm, .slice q1 th.length d1, .slice q2 el.length d2, .bool has, .int .i64 p.1, .int .i64 p.2] 43) = W1 at *
 have z2 : Below W1.heap.size W1 (W1.alloc (.cells #[.int .i64 k, .int .i64 op, .int .u16 v, .string nm, .slice q3 th'.length d3, .slice q4 el'.length d4, .bool has, .int .i64 p'.1, .int .i64 p'.2] 43)) := (Below.refl _ _).alloc (Nat.le_refl _) _
 have v2 : (W1.alloc (.cells #[.int .i64 k, .int .i64 op, .int .u16 v, .string nm, .slice q3 th'.length d3, .slice q4 el'.length d4, .bool has, .int .i64 p'.1, .int .i64 p'.2] 43)).heap[W1.heap.size]? = some (.cells (ndc (.mk k op v nm th' el' has p') (.slice q3 th'.length d3) (.slice q4 el'.length d4)).toArray 43 (0, 0)) := heap_alloc_new W1 _
 have v1' := (z2.block _ (S.lt_of v1)).trans v1
 generalize hW2 : W1.alloc (.cells #[.int .i64 k, .int .i64 op, .int .u16 v, .string nm, .slice q3 th'.length d3, .slice q4 el'.length d4, .bool has, .int .i64 p'.1, .int .i64 p'.2] 43) = W2 at *
 have hB2 : Below W.heap.size W W2 := z1.trans (z2.mono z1.size)
 have hO2 : ∀ i, O i -> i < W2.heap.size := fun i hi => Nat.lt_of_lt_of_le (hO i hi) hB2.size
 have c1 := sameNodes_of th th' h1 _ _ O W2 hO2 (ht.below hB2 hO) (ht'.below hB2 hO)
 obtain ⟨x0, x1, x2, x3, x4, x5, x6, x7, x8⟩ := cells9 (b := W.heap.size) (o := 0) fun j x hx => by rw [Nat.zero_add]; exact S.cell_of W2 _ j _ 43 x v1' hx
 obtain ⟨y0, y1, y2, y3, y4, y5, y6, y7, y8⟩ := cells9 (b := W1.heap.size) (o := 0) fun j x hx => by rw [Nat.zero_add]; exact S.cell_of W2 _ j _ 43 x v2 hx
 simp only [Nat.zero_add, Nd.k, Nd.op, Nd.v, Nd.nm, Nd.has, Nd.p] at x0 x1 x2 x3 x4 x5 x6 x7 x8 y0 y1 y2 y3 y4 y5 y6 y7 y8
 have HH := hid (And.intro hB2 (And.intro hO2 (And.intro v1' v2)))
 have HE := hid (And.intro (he.below hB2 hO) (he'.below hB2 hO))
 clear ht he ht' he' z1 z2 v1 v1' v2 hB2 hO2 hO h1
 go_enter Tryz.func90, Tryz.ntmps90
 go_wp2_with fail
 refine c1.mono ?_
 rintro e w3 ⟨rfl, hb3⟩
 have u1 := (hb3.block _ (S.lt_of HH.out.2.2.1)).trans HH.out.2.2.1
 have u2 := (hb3.block _ (S.lt_of HH.out.2.2.2)).trans HH.out.2.2.2
 have hB3 := HH.out.1.trans (hb3.mono HH.out.1.size)
 have hO3 : ∀ i, O i -> i < w3.heap.size := fun i hi => Nat.lt_of_lt_of_le (HH.out.2.1 i hi) hb3.size
 have c2 := sameNodes_of el el' h2 _ _ O w3 hO3 (HE.out.1.below hb3 HH.out.2.1) (HE.out.2.below hb3 HH.out.2.1)
 have x5' := S.cell_of w3 _ 5 _ 43 _ u1 rfl
 have y5' := S.cell_of w3 _ 5 _ 43 _ u2 rfl
 have HB3 := hid hB3
 clear c1 x0 x1 x2 x3 x4 x5 x6 x7 x8 y0 y1 y2 y3 y4 y5 y6 y7 y8 hb3 u1 u2 hB3 hO3 hW1 hW2
 cases hs : sml th th' with
 | false =>
  clear c2
  go_wp2
  go_ret
  exact ⟨by simp [hs], HB3.out⟩
 | true =>
  go_wp2_with fail
  refine c2.mono ?_
  rintro e w4 ⟨rfl, hb4⟩
  have HB4 := hid (HB3.out.trans (hb4.mono HB3.out.size))
  clear c2 hb4
  go_wp2
  go_ret
  exact ⟨by simp [hs], HB4.out⟩
theorem sameNode_any : ∀ n, SN n := by
 refine Nd.ind fun n h1 h2 => ?_
 intro m tv ev tv' ev' O W hO ht he ht' he'
 obtain ⟨q1, d1, rfl, _, _⟩ := ht.ex
 obtain ⟨q2, d2, rfl, _, _⟩ := he.ex
 obtain ⟨q3, d3, rfl, _, _⟩ := ht'.ex
 obtain ⟨q4, d4, rfl, _, _⟩ := he'.ex
 obtain ⟨k, op, v, nm, th, el, has, p⟩ := n
 obtain ⟨k', op', v', nm', th', el', has', p'⟩ := m
 rw [sm_mk]
 by_cases a0 : k = k'
 case neg =>
  have e0 : (k == k') = false := by simpa using a0
  rw [e0]
  exact same_0 k k' op op' v v' nm nm' has has' th el th' el' p p' a0 h1 h2 q1 q2 q3 q4 d1 d2 d3 d4 O W hO ht he ht' he'
 subst a0
 by_cases a1 : op = op'
 case neg =>
  have e0 : (op == op') = false := by simpa using a1
  rw [e0, Bool.false_and, Bool.and_false]
  exact same_1 k op op' v v' nm nm' has has' th el th' el' p p' a1 h1 h2 q1 q2 q3 q4 d1 d2 d3 d4 O W hO ht he ht' he'
 subst a1
 by_cases a2 : v = v'
 case neg =>
  have e0 : (v == v') = false := by simpa using a2
  rw [e0, Bool.false_and, Bool.and_false, Bool.and_false]
  exact same_2 k op v v' nm nm' has has' th el th' el' p p' a2 h1 h2 q1 q2 q3 q4 d1 d2 d3 d4 O W hO ht he ht' he'
 subst a2
 by_cases a3 : nm = nm'
 case neg =>
  have e0 : decide (nm = nm') = false := decide_eq_false a3
  rw [e0, Bool.false_and, Bool.and_false, Bool.and_false, Bool.and_false]
  exact same_3 k op v nm nm' has has' th el th' el' p p' a3 h1 h2 q1 q2 q3 q4 d1 d2 d3 d4 O W hO ht he ht' he'
 subst a3
 by_cases a4 : has = has'
 case neg =>
  have e0 : (has == has') = false := by cases has <;> cases has' <;> simp at a4 ⊢
  rw [e0, Bool.false_and, Bool.and_false, Bool.and_false, Bool.and_false, Bool.and_false]
  exact same_4 k op v nm has has' th el th' el' p p' a4 h1 h2 q1 q2 q3 q4 d1 d2 d3 d4 O W hO ht he ht' he'
 subst a4
 have e1 : (k == k && (op == op && (v == v && (decide (nm = nm) && (has == has && (sml th th' && sml el el')))))) = (sml th th' && sml el el') := by simp
 rw [e1]
 exact same_5 k op v nm has th el th' el' p p' h1 h2 q1 q2 q3 q4 d1 d2 d3 d4 O W hO ht he ht' he'
theorem sameNodes_any (l l' : List Nd) (v v' : Value) (O : Nat -> Prop) (W : World) (hO : ∀ i, O i -> i < W.heap.size) (h : NV W O v l) (h' : NV W O v' l') :
  Calls Tryz.prog 54 #[v, v'] W fun e w' => e = .returned (.bool (sml l l')) /\ Below W.heap.size W w' := sameNodes_of l l' (fun m _ => sameNode_any m) v v' O W hO h h'
set_option maxHeartbeats 2000000
set_option maxRecDepth 100000
def smd (a b : Df) : Bool := a.k == b.k && (decide (a.nm = b.nm) && (a.v == b.v && sml a.body b.body))
def smds (l l' : List Df) : Bool := l.length == l'.length && (l.zip l').all fun x => smd x.1 x.2
theorem smds_len (l l' : List Df) (h : l.length ≠ l'.length) : smds l l' = false := by
 have : (l.length == l'.length) = false := by simpa using h
 rw [smds, this]; rfl
theorem smds_all (l l' : List Df) (h : l.length = l'.length) (k : ∀ (i : Nat) a b, l[i]? = some a -> l'[i]? = some b -> smd a b = true) : smds l l' = true := by
 rw [smds, h, beq_self_eq_true, Bool.true_and, List.all_eq_true]
 intro x hx
 obtain ⟨i, hi, e⟩ := List.mem_iff_getElem.1 hx
 have e' : (l.zip l')[i]? = some x := by rw [List.getElem?_eq_getElem hi, e]
 rw [List.getElem?_zip_eq_some] at e'
 exact k i _ _ e'.1 e'.2
theorem smds_no (l l' : List Df) (i : Nat) (a b : Df) (ha : l[i]? = some a) (hb : l'[i]? = some b) (e : smd a b = false) : smds l l' = false := by
 rw [Bool.eq_false_iff]
 intro c
 rw [smds, Bool.and_eq_true, List.all_eq_true] at c
 have hz : (l.zip l')[i]? = some (a, b) := by rw [List.getElem?_zip_eq_some]; exact ⟨ha, hb⟩
 have := c.2 _ (List.mem_of_getElem? hz)
 rw [e] at this
 cases this
theorem samd_0 (k k' : Int) (nm nm' : ByteArray) (v v' : Int) (body body' : List Nd) (p p' : Ps) (hne : ¬ k = k') (q1 q3 : Option Addr) (d1 d3 : Nat) (O : Nat -> Prop) (W : World) (hO : ∀ i, O i -> i < W.heap.size) (ht : NV W O (.slice q1 body.length d1) body) (ht' : NV W O (.slice q3 body'.length d3) body') :
  Calls Tryz.prog 30 #[.agg #[.int .i64 k, .string nm, .int .u16 v, .slice q1 body.length d1, .int .i64 p.1, .int .i64 p.2], .agg #[.int .i64 k', .string nm', .int .u16 v', .slice q3 body'.length d3, .int .i64 p'.1, .int .i64 p'.2]] W fun e w' => e = .returned (.bool false) /\ Below W.heap.size W w' := by
 have z1 : Below W.heap.size W (W.alloc (.cells #[.int .i64 k, .string nm, .int .u16 v, .slice q1 body.length d1, .int .i64 p.1, .int .i64 p.2] 45)) := (Below.refl _ _).alloc (Nat.le_refl _) _
 have v1 : (W.alloc (.cells #[.int .i64 k, .string nm, .int .u16 v, .slice q1 body.length d1, .int .i64 p.1, .int .i64 p.2] 45)).heap[W.heap.size]? = some (.cells (dfc ⟨k, nm, v, body, p⟩ (.slice q1 body.length d1)).toArray 45 (0, 0)) := heap_alloc_new W _
 generalize hW1 : W.alloc (.cells #[.int .i64 k, .string nm, .int .u16 v, .slice q1 body.length d1, .int .i64 p.1, .int .i64 p.2] 45) = W1 at *
 have z2 : Below W1.heap.size W1 (W1.alloc (.cells #[.int .i64 k', .string nm', .int .u16 v', .slice q3 body'.length d3, .int .i64 p'.1, .int .i64 p'.2] 45)) := (Below.refl _ _).alloc (Nat.le_refl _) _
 have v2 : (W1.alloc (.cells #[.int .i64 k', .string nm', .int .u16 v', .slice q3 body'.length d3, .int .i64 p'.1, .int .i64 p'.2] 45)).heap[W1.heap.size]? = some (.cells (dfc ⟨k', nm', v', body', p'⟩ (.slice q3 body'.length d3)).toArray 45 (0, 0)) := heap_alloc_new W1 _
 have v1' := (z2.block _ (S.lt_of v1)).trans v1
 generalize hW2 : W1.alloc (.cells #[.int .i64 k', .string nm', .int .u16 v', .slice q3 body'.length d3, .int .i64 p'.1, .int .i64 p'.2] 45) = W2 at *
 have hB2 : Below W.heap.size W W2 := z1.trans (z2.mono z1.size)
 have hO2 : ∀ i, O i -> i < W2.heap.size := fun i hi => Nat.lt_of_lt_of_le (hO i hi) hB2.size
 have c1 := sameNodes_any body body' _ _ O W2 hO2 (ht.below hB2 hO) (ht'.below hB2 hO)
 obtain ⟨x0, x1, x2, x3, x4, x5⟩ := cells6 (b := W.heap.size) (o := 0) fun j x hx => by rw [Nat.zero_add]; exact S.cell_of W2 _ j _ 45 x v1' hx
 obtain ⟨y0, y1, y2, y3, y4, y5⟩ := cells6 (b := W1.heap.size) (o := 0) fun j x hx => by rw [Nat.zero_add]; exact S.cell_of W2 _ j _ 45 x v2 hx
 simp only [Nat.zero_add] at x1 x2 x3 x4 x5 y1 y2 y3 y4 y5
 have HB := hid hB2
 clear ht ht' z1 z2 v1 v1' v2 hB2 hO2 hO
 have b0 : (k == k') = false := by rw [Bool.eq_false_iff]; intro c; exact hne (by simpa using c)
 have b1 : decide (k = k') = false := decide_eq_false hne
 clear c1
 go_enter Tryz.func30, Tryz.ntmps30
 go_wp2
 go_ret
 exact ⟨by simp, HB.out⟩
theorem samd_1 (k : Int) (nm nm' : ByteArray) (v v' : Int) (body body' : List Nd) (p p' : Ps) (hne : ¬ nm = nm') (q1 q3 : Option Addr) (d1 d3 : Nat) (O : Nat -> Prop) (W : World) (hO : ∀ i, O i -> i < W.heap.size) (ht : NV W O (.slice q1 body.length d1) body) (ht' : NV W O (.slice q3 body'.length d3) body') :
  Calls Tryz.prog 30 #[.agg #[.int .i64 k, .string nm, .int .u16 v, .slice q1 body.length d1, .int .i64 p.1, .int .i64 p.2], .agg #[.int .i64 k, .string nm', .int .u16 v', .slice q3 body'.length d3, .int .i64 p'.1, .int .i64 p'.2]] W fun e w' => e = .returned (.bool false) /\ Below W.heap.size W w' := by
 have z1 : Below W.heap.size W (W.alloc (.cells #[.int .i64 k, .string nm, .int .u16 v, .slice q1 body.length d1, .int .i64 p.1, .int .i64 p.2] 45)) := (Below.refl _ _).alloc (Nat.le_refl _) _
 have v1 : (W.alloc (.cells #[.int .i64 k, .string nm, .int .u16 v, .slice q1 body.length d1, .int .i64 p.1, .int .i64 p.2] 45)).heap[W.heap.size]? = some (.cells (dfc ⟨k, nm, v, body, p⟩ (.slice q1 body.length d1)).toArray 45 (0, 0)) := heap_alloc_new W _
 generalize hW1 : W.alloc (.cells #[.int .i64 k, .string nm, .int .u16 v, .slice q1 body.length d1, .int .i64 p.1, .int .i64 p.2] 45) = W1 at *
 have z2 : Below W1.heap.size W1 (W1.alloc (.cells #[.int .i64 k, .string nm', .int .u16 v', .slice q3 body'.length d3, .int .i64 p'.1, .int .i64 p'.2] 45)) := (Below.refl _ _).alloc (Nat.le_refl _) _
 have v2 : (W1.alloc (.cells #[.int .i64 k, .string nm', .int .u16 v', .slice q3 body'.length d3, .int .i64 p'.1, .int .i64 p'.2] 45)).heap[W1.heap.size]? = some (.cells (dfc ⟨k, nm', v', body', p'⟩ (.slice q3 body'.length d3)).toArray 45 (0, 0)) := heap_alloc_new W1 _
 have v1' := (z2.block _ (S.lt_of v1)).trans v1
 generalize hW2 : W1.alloc (.cells #[.int .i64 k, .string nm', .int .u16 v', .slice q3 body'.length d3, .int .i64 p'.1, .int .i64 p'.2] 45) = W2 at *
 have hB2 : Below W.heap.size W W2 := z1.trans (z2.mono z1.size)
 have hO2 : ∀ i, O i -> i < W2.heap.size := fun i hi => Nat.lt_of_lt_of_le (hO i hi) hB2.size
 have c1 := sameNodes_any body body' _ _ O W2 hO2 (ht.below hB2 hO) (ht'.below hB2 hO)
 obtain ⟨x0, x1, x2, x3, x4, x5⟩ := cells6 (b := W.heap.size) (o := 0) fun j x hx => by rw [Nat.zero_add]; exact S.cell_of W2 _ j _ 45 x v1' hx
 obtain ⟨y0, y1, y2, y3, y4, y5⟩ := cells6 (b := W1.heap.size) (o := 0) fun j x hx => by rw [Nat.zero_add]; exact S.cell_of W2 _ j _ 45 x v2 hx
 simp only [Nat.zero_add] at x1 x2 x3 x4 x5 y1 y2 y3 y4 y5
 have HB := hid hB2
 clear ht ht' z1 z2 v1 v1' v2 hB2 hO2 hO
 have b2 : ¬ nm.toList = nm'.toList := fun c => hne (toList_inj c)
 have b1 : decide (nm = nm') = false := decide_eq_false hne
 clear c1
 go_enter Tryz.func30, Tryz.ntmps30
 go_wp2
 go_ret
 exact ⟨by simp, HB.out⟩
theorem samd_2 (k : Int) (nm : ByteArray) (v v' : Int) (body body' : List Nd) (p p' : Ps) (hne : ¬ v = v') (q1 q3 : Option Addr) (d1 d3 : Nat) (O : Nat -> Prop) (W : World) (hO : ∀ i, O i -> i < W.heap.size) (ht : NV W O (.slice q1 body.length d1) body) (ht' : NV W O (.slice q3 body'.length d3) body') :
  Calls Tryz.prog 30 #[.agg #[.int .i64 k, .string nm, .int .u16 v, .slice q1 body.length d1, .int .i64 p.1, .int .i64 p.2], .agg #[.int .i64 k, .string nm, .int .u16 v', .slice q3 body'.length d3, .int .i64 p'.1, .int .i64 p'.2]] W fun e w' => e = .returned (.bool false) /\ Below W.heap.size W w' := by
 have z1 : Below W.heap.size W (W.alloc (.cells #[.int .i64 k, .string nm, .int .u16 v, .slice q1 body.length d1, .int .i64 p.1, .int .i64 p.2] 45)) := (Below.refl _ _).alloc (Nat.le_refl _) _
 have v1 : (W.alloc (.cells #[.int .i64 k, .string nm, .int .u16 v, .slice q1 body.length d1, .int .i64 p.1, .int .i64 p.2] 45)).heap[W.heap.size]? = some (.cells (dfc ⟨k, nm, v, body, p⟩ (.slice q1 body.length d1)).toArray 45 (0, 0)) := heap_alloc_new W _
 generalize hW1 : W.alloc (.cells #[.int .i64 k, .string nm, .int .u16 v, .slice q1 body.length d1, .int .i64 p.1, .int .i64 p.2] 45) = W1 at *
 have z2 : Below W1.heap.size W1 (W1.alloc (.cells #[.int .i64 k, .string nm, .int .u16 v', .slice q3 body'.length d3, .int .i64 p'.1, .int .i64 p'.2] 45)) := (Below.refl _ _).alloc (Nat.le_refl _) _
 have v2 : (W1.alloc (.cells #[.int .i64 k, .string nm, .int .u16 v', .slice q3 body'.length d3, .int .i64 p'.1, .int .i64 p'.2] 45)).heap[W1.heap.size]? = some (.cells (dfc ⟨k, nm, v', body', p'⟩ (.slice q3 body'.length d3)).toArray 45 (0, 0)) := heap_alloc_new W1 _
 have v1' := (z2.block _ (S.lt_of v1)).trans v1
 generalize hW2 : W1.alloc (.cells #[.int .i64 k, .string nm, .int .u16 v', .slice q3 body'.length d3, .int .i64 p'.1, .int .i64 p'.2] 45) = W2 at *
 have hB2 : Below W.heap.size W W2 := z1.trans (z2.mono z1.size)
 have hO2 : ∀ i, O i -> i < W2.heap.size := fun i hi => Nat.lt_of_lt_of_le (hO i hi) hB2.size
 have c1 := sameNodes_any body body' _ _ O W2 hO2 (ht.below hB2 hO) (ht'.below hB2 hO)
 obtain ⟨x0, x1, x2, x3, x4, x5⟩ := cells6 (b := W.heap.size) (o := 0) fun j x hx => by rw [Nat.zero_add]; exact S.cell_of W2 _ j _ 45 x v1' hx
 obtain ⟨y0, y1, y2, y3, y4, y5⟩ := cells6 (b := W1.heap.size) (o := 0) fun j x hx => by rw [Nat.zero_add]; exact S.cell_of W2 _ j _ 45 x v2 hx
 simp only [Nat.zero_add] at x1 x2 x3 x4 x5 y1 y2 y3 y4 y5
 have HB := hid hB2
 clear ht ht' z1 z2 v1 v1' v2 hB2 hO2 hO
 have b0 : (v == v') = false := by rw [Bool.eq_false_iff]; intro c; exact hne (by simpa using c)
 have b1 : decide (v = v') = false := decide_eq_false hne
 clear c1
 go_enter Tryz.func30, Tryz.ntmps30
 go_wp2
 go_ret
 exact ⟨by simp, HB.out⟩
theorem samd_3 (k : Int) (nm : ByteArray) (v : Int) (body body' : List Nd) (p p' : Ps)  (q1 q3 : Option Addr) (d1 d3 : Nat) (O : Nat -> Prop) (W : World) (hO : ∀ i, O i -> i < W.heap.size) (ht : NV W O (.slice q1 body.length d1) body) (ht' : NV W O (.slice q3 body'.length d3) body') :
  Calls Tryz.prog 30 #[.agg #[.int .i64 k, .string nm, .int .u16 v, .slice q1 body.length d1, .int .i64 p.1, .int .i64 p.2], .agg #[.int .i64 k, .string nm, .int .u16 v, .slice q3 body'.length d3, .int .i64 p'.1, .int .i64 p'.2]] W fun e w' => e = .returned (.bool (sml body body')) /\ Below W.heap.size W w' := by
 have z1 : Below W.heap.size W (W.alloc (.cells #[.int .i64 k, .string nm, .int .u16 v, .slice q1 body.length d1, .int .i64 p.1, .int .i64 p.2] 45)) := (Below.refl _ _).alloc (Nat.le_refl _) _
 have v1 : (W.alloc (.cells #[.int .i64 k, .string nm, .int .u16 v, .slice q1 body.length d1, .int .i64 p.1, .int .i64 p.2] 45)).heap[W.heap.size]? = some (.cells (dfc ⟨k, nm, v, body, p⟩ (.slice q1 body.length d1)).toArray 45 (0, 0)) := heap_alloc_new W _
 generalize hW1 : W.alloc (.cells #[.int .i64 k, .string nm, .int .u16 v, .slice q1 body.length d1, .int .i64 p.1, .int .i64 p.2] 45) = W1 at *
 have z2 : Below W1.heap.size W1 (W1.alloc (.cells #[.int .i64 k, .string nm, .int .u16 v, .slice q3 body'.length d3, .int .i64 p'.1, .int .i64 p'.2] 45)) := (Below.refl _ _).alloc (Nat.le_refl _) _
 have v2 : (W1.alloc (.cells #[.int .i64 k, .string nm, .int .u16 v, .slice q3 body'.length d3, .int .i64 p'.1, .int .i64 p'.2] 45)).heap[W1.heap.size]? = some (.cells (dfc ⟨k, nm, v, body', p'⟩ (.slice q3 body'.length d3)).toArray 45 (0, 0)) := heap_alloc_new W1 _
 have v1' := (z2.block _ (S.lt_of v1)).trans v1
 generalize hW2 : W1.alloc (.cells #[.int .i64 k, .string nm, .int .u16 v, .slice q3 body'.length d3, .int .i64 p'.1, .int .i64 p'.2] 45) = W2 at *
 have hB2 : Below W.heap.size W W2 := z1.trans (z2.mono z1.size)
 have hO2 : ∀ i, O i -> i < W2.heap.size := fun i hi => Nat.lt_of_lt_of_le (hO i hi) hB2.size
 have c1 := sameNodes_any body body' _ _ O W2 hO2 (ht.below hB2 hO) (ht'.below hB2 hO)
 obtain ⟨x0, x1, x2, x3, x4, x5⟩ := cells6 (b := W.heap.size) (o := 0) fun j x hx => by rw [Nat.zero_add]; exact S.cell_of W2 _ j _ 45 x v1' hx
 obtain ⟨y0, y1, y2, y3, y4, y5⟩ := cells6 (b := W1.heap.size) (o := 0) fun j x hx => by rw [Nat.zero_add]; exact S.cell_of W2 _ j _ 45 x v2 hx
 simp only [Nat.zero_add] at x1 x2 x3 x4 x5 y1 y2 y3 y4 y5
 have HB := hid hB2
 clear ht ht' z1 z2 v1 v1' v2 hB2 hO2 hO
 go_enter Tryz.func30, Tryz.ntmps30
 go_wp2_with fail
 refine c1.mono ?_
 rintro e w3 ⟨rfl, hb3⟩
 have HB3 := hid (HB.out.trans (hb3.mono HB.out.size))
 clear c1 x0 x1 x2 x3 x4 x5 y0 y1 y2 y3 y4 y5 hb3 hW1 hW2
 go_wp2
 go_ret
 exact ⟨by simp, HB3.out⟩
theorem sameDef_any (n m : Df) (bv bv' : Value) (O : Nat -> Prop) (W : World) (hO : ∀ i, O i -> i < W.heap.size) (ht : NV W O bv n.body) (ht' : NV W O bv' m.body) :
  Calls Tryz.prog 30 #[.agg (dfc n bv).toArray, .agg (dfc m bv').toArray] W fun e w' => e = .returned (.bool (smd n m)) /\ Below W.heap.size W w' := by
 obtain ⟨q1, d1, rfl, _, _⟩ := ht.ex
 obtain ⟨q3, d3, rfl, _, _⟩ := ht'.ex
 obtain ⟨k, nm, v, body, p⟩ := n
 obtain ⟨k', nm', v', body', p'⟩ := m
 have e : smd ⟨k, nm, v, body, p⟩ ⟨k', nm', v', body', p'⟩ = (k == k' && (decide (nm = nm') && (v == v' && sml body body'))) := rfl
 rw [e]
 by_cases a0 : k = k'
 case neg =>
  have e0 : (k == k') = false := by simpa using a0
  rw [e0]
  exact samd_0 k k' nm nm' v v' body body' p p' a0 q1 q3 d1 d3 O W hO ht ht'
 subst a0
 by_cases a1 : nm = nm'
 case neg =>
  have e0 : decide (nm = nm') = false := decide_eq_false a1
  rw [e0, Bool.false_and, Bool.and_false]
  exact samd_1 k nm nm' v v' body body' p p' a1 q1 q3 d1 d3 O W hO ht ht'
 subst a1
 by_cases a2 : v = v'
 case neg =>
  have e0 : (v == v') = false := by simpa using a2
  rw [e0, Bool.false_and, Bool.and_false, Bool.and_false]
  exact samd_2 k nm v v' body body' p p' a2 q1 q3 d1 d3 O W hO ht ht'
 subst a2
 have e1 : (k == k && (decide (nm = nm) && (v == v && sml body body'))) = sml body body' := by simp
 rw [e1]
 exact samd_3 k nm v body body' p p' q1 q3 d1 d3 O W hO ht ht'
theorem equalDefs (l l' : List Df) (v v' : Value) (O : Nat -> Prop) (W : World) (hO : ∀ i, O i -> i < W.heap.size) (h : DV W O v l) (h' : DV W O v' l') :
  Calls Tryz.prog 29 #[v, v', .func (.func 30) #[] #[]] W fun e w' => e = .returned (.bool (smds l l')) /\ Below W.heap.size W w' := by
 obtain ⟨p, c, rfl, hl, hp⟩ := h
 obtain ⟨p', c', rfl, hl', hp'⟩ := h'
 by_cases hll : l.length = l'.length
 ·have HL := hid hll
  have i0 : ((l.length : Int) != (l'.length : Int)) = false := by simp; omega
  clear hll
  go_enter Tryz.func29, Tryz.ntmps29
  go_wp2
  go_loopw [17] (fun i wr => ∃ k : Nat, k <= l.length /\ i = .int .i64 (k : Int) /\ Below W.heap.size W wr /\ (∀ (j : Nat) a b, j < k -> l[j]? = some a -> l'[j]? = some b -> smd a b = true)) (fun i _ => l.length - (intOf i).toNat)
  case atStart => exact ⟨0, by omega, rfl, Below.refl _ _, fun j a b hj => by omega⟩
  case round =>
   obtain ⟨k, hk, rfl, hB, hall⟩ := hrel
   by_cases hlt : k < l.length
   ·have i1 : (k : Int) < l.length := by omega
    have i2 : (k : Int) < l'.length := by have := HL.out; omega
    have hlt' : k < l'.length := by have := HL.out; omega
    have ea := List.getElem?_eq_getElem hlt
    have eb := List.getElem?_eq_getElem hlt'
    generalize l[k] = n at *
    generalize l'[k] = m at *
    obtain ⟨b, o, rfl, hOb, hN⟩ := hp k n ea
    obtain ⟨b', o', rfl, hOb', hN'⟩ := hp' k m eb
    obtain ⟨tv, hc, ht⟩ := hN
    obtain ⟨tv', hc', ht'⟩ := hN'
    obtain ⟨q1, d1, rfl, _, _⟩ := ht.ex
    obtain ⟨q3, d3, rfl, _, _⟩ := ht'.ex
    have k1 := hB.block b (hO b hOb)
    obtain ⟨g0, g1, g2, g3, g4, g5⟩ := cells6 fun j x hx => (World.cell?_of_block (w := W) (a := ⟨b, o + k * 6 + j, none⟩) k1).trans (hc j x hx)
    have z1 : Below wr.heap.size wr (wr.alloc (.cells #[.int .i64 n.k, .string n.nm, .int .u16 n.v, .slice q1 n.body.length d1, .int .i64 n.p.1, .int .i64 n.p.2] 45)) := (Below.refl _ _).alloc (Nat.le_refl _) _
    have v1 : (wr.alloc (.cells #[.int .i64 n.k, .string n.nm, .int .u16 n.v, .slice q1 n.body.length d1, .int .i64 n.p.1, .int .i64 n.p.2] 45)).heap[wr.heap.size]? = some (.cells (dfc n (.slice q1 n.body.length d1)).toArray 45 (0, 0)) := heap_alloc_new wr _
    generalize hW1 : wr.alloc (.cells #[.int .i64 n.k, .string n.nm, .int .u16 n.v, .slice q1 n.body.length d1, .int .i64 n.p.1, .int .i64 n.p.2] 45) = W1 at *
    have hB1 : Below W.heap.size W W1 := hB.trans (z1.mono hB.size)
    have k2 := hB1.block b' (hO b' hOb')
    obtain ⟨f0, f1, f2, f3, f4, f5⟩ := cells6 fun j x hx => (World.cell?_of_block (w := W) (a := ⟨b', o' + k * 6 + j, none⟩) k2).trans (hc' j x hx)
    have z2 : Below W1.heap.size W1 (W1.alloc (.cells #[.int .i64 m.k, .string m.nm, .int .u16 m.v, .slice q3 m.body.length d3, .int .i64 m.p.1, .int .i64 m.p.2] 45)) := (Below.refl _ _).alloc (Nat.le_refl _) _
    have v2 : (W1.alloc (.cells #[.int .i64 m.k, .string m.nm, .int .u16 m.v, .slice q3 m.body.length d3, .int .i64 m.p.1, .int .i64 m.p.2] 45)).heap[W1.heap.size]? = some (.cells (dfc m (.slice q3 m.body.length d3)).toArray 45 (0, 0)) := heap_alloc_new W1 _
    have v1' := (z2.block _ (S.lt_of v1)).trans v1
    generalize hW2 : W1.alloc (.cells #[.int .i64 m.k, .string m.nm, .int .u16 m.v, .slice q3 m.body.length d3, .int .i64 m.p.1, .int .i64 m.p.2] 45) = W2 at *
    have hB2 : Below W.heap.size W W2 := hB1.trans (z2.mono hB1.size)
    have hcall := sameDef_any n m _ _ O W2 (fun i hi => Nat.lt_of_lt_of_le (hO i hi) hB2.size) (ht.below hB2 hO) (ht'.below hB2 hO)
    obtain ⟨x0, x1, x2, x3, x4, x5⟩ := cells6 (b := wr.heap.size) (o := 0) fun j x hx => by rw [Nat.zero_add]; exact S.cell_of W2 _ j _ 45 x v1' hx
    obtain ⟨y0, y1, y2, y3, y4, y5⟩ := cells6 (b := W1.heap.size) (o := 0) fun j x hx => by rw [Nat.zero_add]; exact S.cell_of W2 _ j _ 45 x v2 hx
    simp only [Nat.zero_add] at x1 x2 x3 x4 x5 y1 y2 y3 y4 y5
    unfold dfc at hcall
    have HH := hid (And.intro hB2 (And.intro hall (And.intro ea eb)))
    clear hp hp' hc hc' ht ht' k1 k2 z1 z2 v1 v1' v2 hB hB1 hB2 hall hO ea eb
    go_wp2_with fail
    refine hcall.mono ?_
    rintro e w3 ⟨rfl, hb3⟩
    have HB3 := hid (HH.out.1.trans (hb3.mono HH.out.1.size))
    clear hcall hb3 x0 x1 x2 x3 x4 x5 y0 y1 y2 y3 y4 y5 g0 g1 g2 g3 g4 g5 f0 f1 f2 f3 f4 f5 hW1 hW2
    cases hs : smd n m with
    | true =>
     have hnew : ∀ (j : Nat) a b, j < k + 1 -> l[j]? = some a -> l'[j]? = some b -> smd a b = true := by
      intro j a b hj ha hb
      by_cases hjk : j < k
      ·exact HH.out.2.1 j a b hjk ha hb
      ·obtain rfl : j = k := by omega
       have e1 := HH.out.2.2.1
       have e2 := HH.out.2.2.2
       rw [ha] at e1
       rw [hb] at e2
       cases e1
       cases e2
       exact hs
     have HN := hid hnew
     clear hnew
     go_wp2
     go_roundw
     case rel =>
      first
       | exact ⟨k + 1, by omega, by go_num, HB3.out, HN.out⟩
       | ((repeat apply Exists.intro); refine ⟨⟨k + 1, by omega, ?_, HB3.out, HN.out⟩, rfl⟩; go_num)
     case measure => simp [intOf]; omega
    | false =>
     go_wp2
     go_ret
     rw [smds_no l l' k n m HH.out.2.2.1 HH.out.2.2.2 hs]
     exact ⟨rfl, HB3.out⟩
   ·have i1 : ¬ (k : Int) < l.length := by omega
    go_wp2
    go_ret
    rw [smds_all l l' HL.out fun i a b ha hb => hall i a b (by have := (List.getElem?_eq_some_iff.1 ha).1; omega) ha hb]
    exact ⟨rfl, hB⟩
 ·have i0 : ((l.length : Int) != (l'.length : Int)) = true := by simp; omega
  go_enter Tryz.func29, Tryz.ntmps29
  go_wp2
  go_ret
  rw [smds_len l l' hll]
  exact ⟨rfl, Below.refl _ _⟩
set_option maxHeartbeats 2000000
set_option maxRecDepth 100000
theorem bytesEqual_any (l l' : List UInt8) (v v' : Value) (O : Nat -> Prop) (W : World) (h : BS W O v l) (h' : BS W O v' l') :
    Calls Tryz.prog 55 #[v, v'] W fun e w' => e = .returned (.bool (decide (l = l'))) /\ w' = W := by
  have c1 := h.conv
  have c2 := h'.conv
  obtain ⟨p, c, rfl⟩ := h.ex
  obtain ⟨p', c', rfl⟩ := h'.ex
  clear h h'
  by_cases a : l = l'
  · subst a
    go_enter Tryz.func55, Tryz.ntmps55
    go_wp2
    go_ret
    exact ⟨by simp, rfl⟩
  · have b2 : ¬ (⟨l.toArray⟩ : ByteArray).toList = (⟨l'.toArray⟩ : ByteArray).toList := by
      rw [ByteArray.toList_eq, ByteArray.toList_eq]; simpa using a
    have b3 : ¬ (⟨l.toArray⟩ : ByteArray) = ⟨l'.toArray⟩ := fun c => b2 (by rw [c])
    have d : decide (l = l') = false := decide_eq_false a
    rw [d]
    go_enter Tryz.func55, Tryz.ntmps55
    go_wp2
    go_ret
    exact ⟨by first | rfl | (simp [b2]; done) | (simp [a]; done) | (simp [b3]; done) | (simp [ByteArray.toList_eq]; exact a), rfl⟩
theorem samb_0 (x x' : Int) (l l' : List UInt8) (hne : ¬ x = x') (q1 q3 : Option Addr) (d1 d3 : Nat) (O : Nat -> Prop) (W : World) (hO : ∀ i, O i -> i < W.heap.size) (ht : BS W O (.slice q1 l.length d1) l) (ht' : BS W O (.slice q3 l'.length d3) l') :
    Calls Tryz.prog 32 #[.agg #[.int .i64 x, .slice q1 l.length d1], .agg #[.int .i64 x', .slice q3 l'.length d3]] W fun e w' => e = .returned (.bool false) /\ Below W.heap.size W w' := by
  have z1 : Below W.heap.size W (W.alloc (.cells #[.int .i64 x, .slice q1 l.length d1] 63)) := (Below.refl _ _).alloc (Nat.le_refl _) _
  have v1 : (W.alloc (.cells #[.int .i64 x, .slice q1 l.length d1] 63)).heap[W.heap.size]? = some (.cells [.int .i64 x, .slice q1 l.length d1].toArray 63 (0, 0)) := heap_alloc_new W _
  generalize hW1 : W.alloc (.cells #[.int .i64 x, .slice q1 l.length d1] 63) = W1 at *
  have z2 : Below W1.heap.size W1 (W1.alloc (.cells #[.int .i64 x', .slice q3 l'.length d3] 63)) := (Below.refl _ _).alloc (Nat.le_refl _) _
  have v2 : (W1.alloc (.cells #[.int .i64 x', .slice q3 l'.length d3] 63)).heap[W1.heap.size]? = some (.cells [.int .i64 x', .slice q3 l'.length d3].toArray 63 (0, 0)) := heap_alloc_new W1 _
  have v1' := (z2.block _ (S.lt_of v1)).trans v1
  generalize hW2 : W1.alloc (.cells #[.int .i64 x', .slice q3 l'.length d3] 63) = W2 at *
  have hB2 : Below W.heap.size W W2 := z1.trans (z2.mono z1.size)
  have c1 := bytesEqual_any l l' _ _ O W2 (ht.below hB2 hO) (ht'.below hB2 hO)
  have x0 := S.cell_of W2 _ 0 _ 63 _ v1' rfl
  have x1 := S.cell_of W2 _ 1 _ 63 _ v1' rfl
  have y0 := S.cell_of W2 _ 0 _ 63 _ v2 rfl
  have y1 := S.cell_of W2 _ 1 _ 63 _ v2 rfl
  have HB := hid hB2
  clear ht ht' z1 z2 v1 v1' v2 hB2 hO
  have b0 : (x == x') = false := by simpa using hne
  clear c1
  go_enter Tryz.func32, Tryz.ntmps32
  go_wp2
  go_ret
  exact ⟨by simp, HB.out⟩
theorem samb_1 (x : Int) (l l' : List UInt8)  (q1 q3 : Option Addr) (d1 d3 : Nat) (O : Nat -> Prop) (W : World) (hO : ∀ i, O i -> i < W.heap.size) (ht : BS W O (.slice q1 l.length d1) l) (ht' : BS W O (.slice q3 l'.length d3) l') :
    Calls Tryz.prog 32 #[.agg #[.int .i64 x, .slice q1 l.length d1], .agg #[.int .i64 x, .slice q3 l'.length d3]] W fun e w' => e = .returned (.bool (decide (l = l'))) /\ Below W.heap.size W w' := by
  have z1 : Below W.heap.size W (W.alloc (.cells #[.int .i64 x, .slice q1 l.length d1] 63)) := (Below.refl _ _).alloc (Nat.le_refl _) _
  have v1 : (W.alloc (.cells #[.int .i64 x, .slice q1 l.length d1] 63)).heap[W.heap.size]? = some (.cells [.int .i64 x, .slice q1 l.length d1].toArray 63 (0, 0)) := heap_alloc_new W _
  generalize hW1 : W.alloc (.cells #[.int .i64 x, .slice q1 l.length d1] 63) = W1 at *
  have z2 : Below W1.heap.size W1 (W1.alloc (.cells #[.int .i64 x, .slice q3 l'.length d3] 63)) := (Below.refl _ _).alloc (Nat.le_refl _) _
  have v2 : (W1.alloc (.cells #[.int .i64 x, .slice q3 l'.length d3] 63)).heap[W1.heap.size]? = some (.cells [.int .i64 x, .slice q3 l'.length d3].toArray 63 (0, 0)) := heap_alloc_new W1 _
  have v1' := (z2.block _ (S.lt_of v1)).trans v1
  generalize hW2 : W1.alloc (.cells #[.int .i64 x, .slice q3 l'.length d3] 63) = W2 at *
  have hB2 : Below W.heap.size W W2 := z1.trans (z2.mono z1.size)
  have c1 := bytesEqual_any l l' _ _ O W2 (ht.below hB2 hO) (ht'.below hB2 hO)
  have x0 := S.cell_of W2 _ 0 _ 63 _ v1' rfl
  have x1 := S.cell_of W2 _ 1 _ 63 _ v1' rfl
  have y0 := S.cell_of W2 _ 0 _ 63 _ v2 rfl
  have y1 := S.cell_of W2 _ 1 _ 63 _ v2 rfl
  have HB := hid hB2
  clear ht ht' z1 z2 v1 v1' v2 hB2 hO
  go_enter Tryz.func32, Tryz.ntmps32
  go_wp2_with fail
  refine c1.mono ?_
  rintro e w3 ⟨rfl, hw3⟩
  obtain rfl := hw3
  clear c1 x0 x1 y0 y1 hW1 hW2
  go_wp2
  go_ret
  exact ⟨by simp, HB.out⟩
def smb (a b : Bk) : Bool := a.1 == b.1 && decide (a.2 = b.2)
theorem sameBank_any (n m : Bk) (bv bv' : Value) (O : Nat -> Prop) (W : World) (hO : ∀ i, O i -> i < W.heap.size) (ht : BS W O bv n.2) (ht' : BS W O bv' m.2) :
    Calls Tryz.prog 32 #[.agg #[.int .i64 n.1, bv], .agg #[.int .i64 m.1, bv']] W fun e w' => e = .returned (.bool (smb n m)) /\ Below W.heap.size W w' := by
  obtain ⟨q1, d1, rfl⟩ := ht.ex
  obtain ⟨q3, d3, rfl⟩ := ht'.ex
  obtain ⟨x, l⟩ := n
  obtain ⟨x', l'⟩ := m
  have e : smb (x, l) (x', l') = (x == x' && decide (l = l')) := rfl
  rw [e]
  by_cases a0 : x = x'
  case neg =>
    have e0 : (x == x') = false := by simpa using a0
    rw [e0]
    exact samb_0 x x' l l' a0 q1 q3 d1 d3 O W hO ht ht'
  subst a0
  have e1 : (x == x && decide (l = l')) = decide (l = l') := by simp
  rw [e1]
  exact samb_1 x l l' q1 q3 d1 d3 O W hO ht ht'
set_option maxHeartbeats 2000000
set_option maxRecDepth 100000
def smbs (l l' : List Bk) : Bool := l.length == l'.length && (l.zip l').all fun x => smb x.1 x.2
theorem smbs_len (l l' : List Bk) (h : l.length ≠ l'.length) : smbs l l' = false := by
 have : (l.length == l'.length) = false := by simpa using h
 rw [smbs, this]; rfl
theorem smbs_all (l l' : List Bk) (h : l.length = l'.length) (k : ∀ (i : Nat) a b, l[i]? = some a -> l'[i]? = some b -> smb a b = true) : smbs l l' = true := by
 rw [smbs, h, beq_self_eq_true, Bool.true_and, List.all_eq_true]
 intro x hx
 obtain ⟨i, hi, e⟩ := List.mem_iff_getElem.1 hx
 have e' : (l.zip l')[i]? = some x := by rw [List.getElem?_eq_getElem hi, e]
 rw [List.getElem?_zip_eq_some] at e'
 exact k i _ _ e'.1 e'.2
theorem smbs_no (l l' : List Bk) (i : Nat) (a b : Bk) (ha : l[i]? = some a) (hb : l'[i]? = some b) (e : smb a b = false) : smbs l l' = false := by
 rw [Bool.eq_false_iff]
 intro c
 rw [smbs, Bool.and_eq_true, List.all_eq_true] at c
 have hz : (l.zip l')[i]? = some (a, b) := by rw [List.getElem?_zip_eq_some]; exact ⟨ha, hb⟩
 have := c.2 _ (List.mem_of_getElem? hz)
 rw [e] at this
 cases this
theorem equalBanks (l l' : List Bk) (hl : l.length <= 140737488355328) (v v' : Value) (O : Nat -> Prop) (W : World) (hO : ∀ i, O i -> i < W.heap.size) (h : BV W O v l) (h' : BV W O v' l') :
  Calls Tryz.prog 31 #[v, v', .func (.func 32) #[] #[]] W fun e w' => e = .returned (.bool (smbs l l')) /\ Below W.heap.size W w' := by
 obtain ⟨p, c, rfl, hp⟩ := h
 obtain ⟨p', c', rfl, hp'⟩ := h'
 by_cases hll : l.length = l'.length
 ·have HL := hid hll
  have i0 : ((l.length : Int) != (l'.length : Int)) = false := by simp; omega
  clear hll
  go_enter Tryz.func31, Tryz.ntmps31
  go_wp2
  go_loopw [17] (fun i wr => ∃ k : Nat, k <= l.length /\ i = .int .i64 (k : Int) /\ Below W.heap.size W wr /\ (∀ (j : Nat) a b, j < k -> l[j]? = some a -> l'[j]? = some b -> smb a b = true)) (fun i _ => l.length - (intOf i).toNat)
  case atStart => exact ⟨0, by omega, rfl, Below.refl _ _, fun j a b hj => by omega⟩
  case round =>
   obtain ⟨k, hk, rfl, hB, hall⟩ := hrel
   by_cases hlt : k < l.length
   ·have i1 : (k : Int) < l.length := by omega
    have i2 : (k : Int) < l'.length := by have := HL.out; omega
    have hlt' : k < l'.length := by have := HL.out; omega
    have ea := List.getElem?_eq_getElem hlt
    have eb := List.getElem?_eq_getElem hlt'
    generalize l[k] = n at *
    generalize l'[k] = m at *
    obtain ⟨b, o, rfl, hOb, hN⟩ := hp k n ea
    obtain ⟨b', o', rfl, hOb', hN'⟩ := hp' k m eb
    obtain ⟨tv, hc, ht⟩ := hN
    obtain ⟨tv', hc', ht'⟩ := hN'
    obtain ⟨q1, d1, rfl⟩ := ht.ex
    obtain ⟨q3, d3, rfl⟩ := ht'.ex
    have k1 := hB.block b (hO b hOb)
    have g0 := (World.cell?_of_block (w := W) (a := ⟨b, o + k * 2, none⟩) k1).trans hc.1
    have g1 := (World.cell?_of_block (w := W) (a := ⟨b, o + k * 2 + 1, none⟩) k1).trans hc.2
    have z1 : Below wr.heap.size wr (wr.alloc (.cells #[.int .i64 n.1, .slice q1 n.2.length d1] 63)) := (Below.refl _ _).alloc (Nat.le_refl _) _
    have v1 : (wr.alloc (.cells #[.int .i64 n.1, .slice q1 n.2.length d1] 63)).heap[wr.heap.size]? = some (.cells [.int .i64 n.1, .slice q1 n.2.length d1].toArray 63 (0, 0)) := heap_alloc_new wr _
    generalize hW1 : wr.alloc (.cells #[.int .i64 n.1, .slice q1 n.2.length d1] 63) = W1 at *
    have hB1 : Below W.heap.size W W1 := hB.trans (z1.mono hB.size)
    have k2 := hB1.block b' (hO b' hOb')
    have f0 := (World.cell?_of_block (w := W) (a := ⟨b', o' + k * 2, none⟩) k2).trans hc'.1
    have f1 := (World.cell?_of_block (w := W) (a := ⟨b', o' + k * 2 + 1, none⟩) k2).trans hc'.2
    have z2 : Below W1.heap.size W1 (W1.alloc (.cells #[.int .i64 m.1, .slice q3 m.2.length d3] 63)) := (Below.refl _ _).alloc (Nat.le_refl _) _
    have v2 : (W1.alloc (.cells #[.int .i64 m.1, .slice q3 m.2.length d3] 63)).heap[W1.heap.size]? = some (.cells [.int .i64 m.1, .slice q3 m.2.length d3].toArray 63 (0, 0)) := heap_alloc_new W1 _
    have v1' := (z2.block _ (S.lt_of v1)).trans v1
    generalize hW2 : W1.alloc (.cells #[.int .i64 m.1, .slice q3 m.2.length d3] 63) = W2 at *
    have hB2 : Below W.heap.size W W2 := hB1.trans (z2.mono hB1.size)
    have hcall := sameBank_any n m _ _ O W2 (fun i hi => Nat.lt_of_lt_of_le (hO i hi) hB2.size) (ht.below hB2 hO) (ht'.below hB2 hO)
    have x0 := S.cell_of W2 _ 0 _ 63 _ v1' rfl
    have x1 := S.cell_of W2 _ 1 _ 63 _ v1' rfl
    have y0 := S.cell_of W2 _ 0 _ 63 _ v2 rfl
    have y1 := S.cell_of W2 _ 1 _ 63 _ v2 rfl
    have HH := hid (And.intro hB2 (And.intro hall (And.intro ea eb)))
    clear hp hp' hc hc' ht ht' k1 k2 z1 z2 v1 v1' v2 hB hB1 hB2 hall hO ea eb
    go_wp2_with fail
    refine hcall.mono ?_
    rintro e w3 ⟨rfl, hb3⟩
    have HB3 := hid (HH.out.1.trans (hb3.mono HH.out.1.size))
    clear hcall hb3 x0 x1 y0 y1 g0 g1 f0 f1 hW1 hW2
    cases hs : smb n m with
    | true =>
     have hnew : ∀ (j : Nat) a b, j < k + 1 -> l[j]? = some a -> l'[j]? = some b -> smb a b = true := by
      intro j a b hj ha hb
      by_cases hjk : j < k
      ·exact HH.out.2.1 j a b hjk ha hb
      ·obtain rfl : j = k := by omega
       have e1 := HH.out.2.2.1
       have e2 := HH.out.2.2.2
       rw [ha] at e1
       rw [hb] at e2
       cases e1
       cases e2
       exact hs
     have HN := hid hnew
     clear hnew
     go_wp2
     go_roundw
     case rel =>
      first
       | exact ⟨k + 1, by omega, by go_num, HB3.out, HN.out⟩
       | ((repeat apply Exists.intro); refine ⟨⟨k + 1, by omega, ?_, HB3.out, HN.out⟩, rfl⟩; go_num)
     case measure => simp [intOf]; omega
    | false =>
     go_wp2
     go_ret
     rw [smbs_no l l' k n m HH.out.2.2.1 HH.out.2.2.2 hs]
     exact ⟨rfl, HB3.out⟩
   ·have i1 : ¬ (k : Int) < l.length := by omega
    go_wp2
    go_ret
    rw [smbs_all l l' HL.out fun i a b ha hb => hall i a b (by have := (List.getElem?_eq_some_iff.1 ha).1; omega) ha hb]
    exact ⟨rfl, hB⟩
 ·have i0 : ((l.length : Int) != (l'.length : Int)) = true := by simp; omega
  go_enter Tryz.func31, Tryz.ntmps31
  go_wp2
  go_ret
  rw [smbs_len l l' hll]
  exact ⟨rfl, Below.refl _ _⟩
theorem same_any (ds ds' : List Df) (bs bs' : List Bk) (hbl : bs.length <= 140737488355328) (dv bv dv' bv' : Value) (O : Nat -> Prop) (W : World) (hO : ∀ i, O i -> i < W.heap.size) (h1 : DV W O dv ds) (h2 : BV W O bv bs) (h3 : DV W O dv' ds') (h4 : BV W O bv' bs') :
  Calls Tryz.prog 13 #[.agg #[dv, bv], .agg #[dv', bv']] W fun e w' => e = .returned (.bool (smds ds ds' && smbs bs bs')) /\ Below W.heap.size W w' := by
 obtain ⟨q1, d1, e1, _, _⟩ := id h1
 obtain ⟨q2, d2, e2, _⟩ := id h2
 obtain ⟨q3, d3, e3, _, _⟩ := id h3
 obtain ⟨q4, d4, e4, _⟩ := id h4
 subst e1 e2 e3 e4
 have z1 : Below W.heap.size W (W.alloc (.cells #[.slice q1 ds.length d1, .slice q2 bs.length d2] 26)) := (Below.refl _ _).alloc (Nat.le_refl _) _
 have v1 : (W.alloc (.cells #[.slice q1 ds.length d1, .slice q2 bs.length d2] 26)).heap[W.heap.size]? = some (.cells [.slice q1 ds.length d1, .slice q2 bs.length d2].toArray 26 (0, 0)) := heap_alloc_new W _
 generalize hW1 : W.alloc (.cells #[.slice q1 ds.length d1, .slice q2 bs.length d2] 26) = W1 at *
 have z2 : Below W1.heap.size W1 (W1.alloc (.cells #[.slice q3 ds'.length d3, .slice q4 bs'.length d4] 26)) := (Below.refl _ _).alloc (Nat.le_refl _) _
 have v2 : (W1.alloc (.cells #[.slice q3 ds'.length d3, .slice q4 bs'.length d4] 26)).heap[W1.heap.size]? = some (.cells [.slice q3 ds'.length d3, .slice q4 bs'.length d4].toArray 26 (0, 0)) := heap_alloc_new W1 _
 have v1' := (z2.block _ (S.lt_of v1)).trans v1
 generalize hW2 : W1.alloc (.cells #[.slice q3 ds'.length d3, .slice q4 bs'.length d4] 26) = W2 at *
 have hB2 : Below W.heap.size W W2 := z1.trans (z2.mono z1.size)
 have hO2 : ∀ i, O i -> i < W2.heap.size := fun i hi => Nat.lt_of_lt_of_le (hO i hi) hB2.size
 have c1 := equalDefs ds ds' _ _ O W2 hO2 (h1.below hB2 hO) (h3.below hB2 hO)
 have x0 := S.cell_of W2 _ 0 _ 26 _ v1' rfl
 have y0 := S.cell_of W2 _ 0 _ 26 _ v2 rfl
 have HH := hid (And.intro hB2 (And.intro hO2 (And.intro (h2.below hB2 hO) (And.intro (h4.below hB2 hO) (And.intro v1' v2)))))
 clear h1 h2 h3 h4 z1 z2 v1 v1' v2 hB2 hO2 hO
 go_enter Tryz.func13, Tryz.ntmps13
 go_wp2_with fail
 refine c1.mono ?_
 rintro e w3 ⟨rfl, hb3⟩
 obtain ⟨hB2, hO2, k2, k4, v1, v2⟩ := HH.out
 have x1 := S.cell_of w3 _ 1 _ 26 _ ((hb3.block _ (S.lt_of v1)).trans v1) rfl
 have y1 := S.cell_of w3 _ 1 _ 26 _ ((hb3.block _ (S.lt_of v2)).trans v2) rfl
 have c2 := equalBanks bs bs' hbl _ _ O w3 (fun i hi => Nat.lt_of_lt_of_le (hO2 i hi) hb3.size) (k2.below hb3 hO2) (k4.below hb3 hO2)
 have HB3 := hid (hB2.trans (hb3.mono hB2.size))
 clear c1 x0 y0 hb3 hB2 hO2 k2 k4 v1 v2 HH hW1 hW2
 cases hs : smds ds ds' with
 | false =>
  clear c2
  go_wp2
  go_ret
  exact ⟨by simp [hs], HB3.out⟩
 | true =>
  go_wp2_with fail
  refine c2.mono ?_
  rintro e w4 ⟨rfl, hb4⟩
  have HB4 := hid (HB3.out.trans (hb4.mono HB3.out.size))
  clear c2 hb4
  go_wp2
  go_ret
  exact ⟨by simp [hs], HB4.out⟩
end Go.Proofs.YtdnklgceghllaaaGreatDoor.M
