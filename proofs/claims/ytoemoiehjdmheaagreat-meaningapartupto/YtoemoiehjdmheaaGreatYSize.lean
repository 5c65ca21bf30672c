import Derived.Test.YtoemoiehjdmheaaGreatYKit
import Derived.Test.YtoemoiehjdmheaaGreatSKit
import Derived.Deep.DeepCutAuto
import Derived.Deep.RegionHeld3
import Derived.BigQuiet
namespace Go.Proofs.YtoemoiehjdmheaaGreat.Y
open Go.RowKit
open Go.Proofs
set_option linter.unusedVariables false
set_option linter.unusedSimpArgs false
set_option maxHeartbeats 2000000
set_option maxRecDepth 100000
def SZ (n : Nd) : Prop := ∀ (tv ev : Value) (O : Nat -> Prop) (W : World), (∀ i, O i -> i < W.heap.size) -> NV W O tv n.th -> NV W O ev n.el ->
  Calls Tryz.prog 134 #[.agg (ndc n tv ev).toArray] W fun e w' => e = .returned (.int .i64 (wrap64 (2 * ce n))) /\ Below W.heap.size W w'
theorem ret_eq {a b : Int} (h : a % 18446744073709551616 = b % 18446744073709551616) : (Ending.returned (.int .i64 (wrap64 a)) : Ending) = .returned (.int .i64 (wrap64 b)) := by rw [w_eq h]
theorem sizes_of (l : List Nd) (hn : ∀ m ∈ l, SZ m) (v : Value) (O : Nat -> Prop) (W : World) (hO : ∀ i, O i -> i < W.heap.size) (h : NV W O v l) :
  Calls Tryz.prog 83 #[v] W fun e w' => e = .returned (.int .i64 (wrap64 (2 * cl l))) /\ Below W.heap.size W w' := by
 obtain ⟨p, c, rfl, hl, hp⟩ := h.ex
 clear h
 go_enter Tryz.func83, Tryz.ntmps83
 go_wp2
 go_loopw [3, 8] (fun s i wr => ∃ k : Nat, k <= l.length /\ i = .int .i64 (k : Int) /\ s = .int .i64 (wrap64 (2 * cl (l.take k))) /\ Below W.heap.size W wr) (fun _ i _ => l.length - (intOf i).toNat)
 case atStart => exact ⟨0, by omega, rfl, by rw [List.take_zero, cl_nil, w_in _ (by omega)] <;> rfl, Below.refl _ _⟩
 case round =>
  obtain ⟨k, hk, rfl, rfl, hB⟩ := hrel
  by_cases hlt : k < l.length
  ·have i1 : (k : Int) < l.length := by omega
   have ea := List.getElem?_eq_getElem hlt
   have hm := hn l[k] (List.getElem_mem _)
   generalize l[k] = n at *
   obtain ⟨b, o, rfl, hOb, hN⟩ := hp k n ea
   obtain ⟨tv, ev, hc, ht, he⟩ := hN.ex
   obtain ⟨q1, d1, rfl, _, _⟩ := ht.ex
   obtain ⟨q2, d2, rfl, _, _⟩ := he.ex
   have k1 := hB.block b (hO b hOb)
   obtain ⟨g0, g1, g2, g3, g4, g5, g6, g7, g8⟩ := cells9 fun j x hx => (World.cell?_of_block (w := W) (a := ⟨b, o + k * 9 + j, none⟩) k1).trans (hc j x hx)
   have z1 : Below wr.heap.size wr (wr.alloc (.cells #[.int .i64 n.k, .int .i64 n.op, .int .u16 n.v, .string n.nm, .slice q1 n.th.length d1, .slice q2 n.el.length d2, .bool n.has, .int .i64 n.p.1, .int .i64 n.p.2] 90)) := (Below.refl _ _).alloc (Nat.le_refl _) _
   have v1 : (wr.alloc (.cells #[.int .i64 n.k, .int .i64 n.op, .int .u16 n.v, .string n.nm, .slice q1 n.th.length d1, .slice q2 n.el.length d2, .bool n.has, .int .i64 n.p.1, .int .i64 n.p.2] 90)).heap[wr.heap.size]? = some (.cells (ndc n (.slice q1 n.th.length d1) (.slice q2 n.el.length d2)).toArray 90 (0, 0)) := heap_alloc_new wr _
   generalize hW1 : wr.alloc (.cells #[.int .i64 n.k, .int .i64 n.op, .int .u16 n.v, .string n.nm, .slice q1 n.th.length d1, .slice q2 n.el.length d2, .bool n.has, .int .i64 n.p.1, .int .i64 n.p.2] 90) = W1 at *
   have hB1 : Below W.heap.size W W1 := hB.trans (z1.mono hB.size)
   obtain ⟨x0, x1, x2, x3, x4, x5, x6, x7, x8⟩ := cells9 (b := wr.heap.size) (o := 0) fun j x hx => by rw [Nat.zero_add]; exact S.cell_of W1 _ j _ 90 x v1 hx
   simp only [Nat.zero_add] at x1 x2 x3 x4 x5 x6 x7 x8
   have hcall := hm _ _ O W1 (fun i hi => Nat.lt_of_lt_of_le (hO i hi) hB1.size) (ht.below hB1 hO) (he.below hB1 hO)
   have HH := hid hB1
   clear z1 v1 hB hB1 k1
   unfold ndc at hcall
   have ES : cl (l.take (k + 1)) = cl (l.take k) + ce n := cl_take_succ l k n ea
   have HES := hid ES
   clear ES
   generalize hs : wrap64 (2 * cl (l.take k)) = s at *
   generalize hz : wrap64 (2 * ce n) = z at *
   have HS := hid (And.intro hs hz)
   clear hs hz hm hp hN hc ht he hn hO ea
   go_wp2_with fail
   refine hcall.mono ?_
   rintro e w3 ⟨rfl, hb3⟩
   have HB3 := hid (HH.out.trans (hb3.mono HH.out.size))
   clear hcall hb3 x0 x1 x2 x3 x4 x5 x6 x7 x8 g0 g1 g2 g3 g4 g5 g6 g7 g8 hW1
   go_wp2
   go_roundw
   case rel =>
    have hq : wrap64 (s + z) = wrap64 (2 * cl (l.take (k + 1))) := by
     rw [<- HS.out.1, <- HS.out.2, w_al, w_ar, HES.out] <;> exact w_eq (by omega)
    first
     | exact ⟨k + 1, by omega, by go_num, by rw [<- hq], HB3.out⟩
     | ((repeat apply Exists.intro); refine ⟨⟨k + 1, by omega, ?_, by rw [<- hq], HB3.out⟩, rfl⟩; go_num)
   case measure => simp [intOf]; omega
  ·have i1 : ¬ (k : Int) < l.length := by omega
   go_wp2
   go_ret
   rw [cl_take_all l k (by omega)]
   exact ⟨rfl, hB⟩
theorem so_1 (op v : Int) (nm : ByteArray) (th el : List Nd) (has : Bool) (p : Ps) (h1 : ∀ m ∈ th, SZ m) (h2 : ∀ m ∈ el, SZ m) (q1 q2 : Option Addr) (d1 d2 : Nat) (O : Nat -> Prop) (W : World) (hO : ∀ i, O i -> i < W.heap.size) (ht : NV W O (.slice q1 th.length d1) th) (he : NV W O (.slice q2 el.length d2) el) :
  Calls Tryz.prog 134 #[.agg #[.int .i64 1, .int .i64 op, .int .u16 v, .string nm, .slice q1 th.length d1, .slice q2 el.length d2, .bool has, .int .i64 p.1, .int .i64 p.2]] W fun e w' => e = .returned (.int .i64 (wrap64 (2 * cn 1 has (cl th) (cl el)))) /\ Below W.heap.size W w' := by
 obtain ⟨W1, hW1⟩ : ∃ W1, W1 = W.alloc (.cells #[.int .i64 1, .int .i64 op, .int .u16 v, .string nm, .slice q1 th.length d1, .slice q2 el.length d2, .bool has, .int .i64 p.1, .int .i64 p.2] 90) := ⟨_, rfl⟩
 have z1 : Below W.heap.size W W1 := by rw [hW1]; exact (Below.refl _ _).alloc (Nat.le_refl _) _
 have v1 : W1.heap[W.heap.size]? = some (.cells (ndc (.mk 1 op v nm th el has p) (.slice q1 th.length d1) (.slice q2 el.length d2)).toArray 90 (0, 0)) := by rw [hW1]; exact heap_alloc_new W _
 obtain ⟨x0, x1, x2, x3, x4, x5, x6, x7, x8⟩ := cells9 (b := W.heap.size) (o := 0) fun j x hx => by rw [Nat.zero_add]; exact S.cell_of W1 _ j _ 90 x v1 hx
 simp only [Nat.zero_add, Nd.k, Nd.op, Nd.v, Nd.nm, Nd.has, Nd.p] at x0 x1 x2 x3 x4 x5 x6 x7 x8
 have HH := hid z1
 have HV := hid v1
 clear ht he z1 v1 hO h1 h2
 go_enter Tryz.func134, Tryz.ntmps134
 go_wp2
 try rw [<- hW1]
 go_ret
 exact ⟨by unfold cn; simp only [reduceIte, Int.reduceEq, or_false, or_true, true_or, false_or]; rw [w_in _ (by omega)]; rfl, HH.out⟩
theorem so_2 (op v : Int) (nm : ByteArray) (th el : List Nd) (has : Bool) (p : Ps) (h1 : ∀ m ∈ th, SZ m) (h2 : ∀ m ∈ el, SZ m) (q1 q2 : Option Addr) (d1 d2 : Nat) (O : Nat -> Prop) (W : World) (hO : ∀ i, O i -> i < W.heap.size) (ht : NV W O (.slice q1 th.length d1) th) (he : NV W O (.slice q2 el.length d2) el) :
  Calls Tryz.prog 134 #[.agg #[.int .i64 2, .int .i64 op, .int .u16 v, .string nm, .slice q1 th.length d1, .slice q2 el.length d2, .bool has, .int .i64 p.1, .int .i64 p.2]] W fun e w' => e = .returned (.int .i64 (wrap64 (2 * cn 2 has (cl th) (cl el)))) /\ Below W.heap.size W w' := by
 obtain ⟨W1, hW1⟩ : ∃ W1, W1 = W.alloc (.cells #[.int .i64 2, .int .i64 op, .int .u16 v, .string nm, .slice q1 th.length d1, .slice q2 el.length d2, .bool has, .int .i64 p.1, .int .i64 p.2] 90) := ⟨_, rfl⟩
 have z1 : Below W.heap.size W W1 := by rw [hW1]; exact (Below.refl _ _).alloc (Nat.le_refl _) _
 have v1 : W1.heap[W.heap.size]? = some (.cells (ndc (.mk 2 op v nm th el has p) (.slice q1 th.length d1) (.slice q2 el.length d2)).toArray 90 (0, 0)) := by rw [hW1]; exact heap_alloc_new W _
 obtain ⟨x0, x1, x2, x3, x4, x5, x6, x7, x8⟩ := cells9 (b := W.heap.size) (o := 0) fun j x hx => by rw [Nat.zero_add]; exact S.cell_of W1 _ j _ 90 x v1 hx
 simp only [Nat.zero_add, Nd.k, Nd.op, Nd.v, Nd.nm, Nd.has, Nd.p] at x0 x1 x2 x3 x4 x5 x6 x7 x8
 have HH := hid z1
 have HV := hid v1
 clear ht he z1 v1 hO h1 h2
 go_enter Tryz.func134, Tryz.ntmps134
 go_wp2
 try rw [<- hW1]
 go_ret
 exact ⟨by unfold cn; simp only [reduceIte, Int.reduceEq, or_false, or_true, true_or, false_or]; rw [w_in _ (by omega)]; rfl, HH.out⟩
theorem so_3 (op v : Int) (nm : ByteArray) (th el : List Nd) (has : Bool) (p : Ps) (h1 : ∀ m ∈ th, SZ m) (h2 : ∀ m ∈ el, SZ m) (q1 q2 : Option Addr) (d1 d2 : Nat) (O : Nat -> Prop) (W : World) (hO : ∀ i, O i -> i < W.heap.size) (ht : NV W O (.slice q1 th.length d1) th) (he : NV W O (.slice q2 el.length d2) el) :
  Calls Tryz.prog 134 #[.agg #[.int .i64 3, .int .i64 op, .int .u16 v, .string nm, .slice q1 th.length d1, .slice q2 el.length d2, .bool has, .int .i64 p.1, .int .i64 p.2]] W fun e w' => e = .returned (.int .i64 (wrap64 (2 * cn 3 has (cl th) (cl el)))) /\ Below W.heap.size W w' := by
 obtain ⟨W1, hW1⟩ : ∃ W1, W1 = W.alloc (.cells #[.int .i64 3, .int .i64 op, .int .u16 v, .string nm, .slice q1 th.length d1, .slice q2 el.length d2, .bool has, .int .i64 p.1, .int .i64 p.2] 90) := ⟨_, rfl⟩
 have z1 : Below W.heap.size W W1 := by rw [hW1]; exact (Below.refl _ _).alloc (Nat.le_refl _) _
 have v1 : W1.heap[W.heap.size]? = some (.cells (ndc (.mk 3 op v nm th el has p) (.slice q1 th.length d1) (.slice q2 el.length d2)).toArray 90 (0, 0)) := by rw [hW1]; exact heap_alloc_new W _
 obtain ⟨x0, x1, x2, x3, x4, x5, x6, x7, x8⟩ := cells9 (b := W.heap.size) (o := 0) fun j x hx => by rw [Nat.zero_add]; exact S.cell_of W1 _ j _ 90 x v1 hx
 simp only [Nat.zero_add, Nd.k, Nd.op, Nd.v, Nd.nm, Nd.has, Nd.p] at x0 x1 x2 x3 x4 x5 x6 x7 x8
 have HH := hid z1
 have HV := hid v1
 clear ht he z1 v1 hO h1 h2
 go_enter Tryz.func134, Tryz.ntmps134
 go_wp2
 try rw [<- hW1]
 go_ret
 exact ⟨by unfold cn; simp only [reduceIte, Int.reduceEq, or_false, or_true, true_or, false_or]; rw [w_in _ (by omega)]; rfl, HH.out⟩
theorem so_4f (op v : Int) (nm : ByteArray) (th el : List Nd) (p : Ps) (h1 : ∀ m ∈ th, SZ m) (h2 : ∀ m ∈ el, SZ m) (q1 q2 : Option Addr) (d1 d2 : Nat) (O : Nat -> Prop) (W : World) (hO : ∀ i, O i -> i < W.heap.size) (ht : NV W O (.slice q1 th.length d1) th) (he : NV W O (.slice q2 el.length d2) el) :
  Calls Tryz.prog 134 #[.agg #[.int .i64 4, .int .i64 op, .int .u16 v, .string nm, .slice q1 th.length d1, .slice q2 el.length d2, .bool false, .int .i64 p.1, .int .i64 p.2]] W fun e w' => e = .returned (.int .i64 (wrap64 (2 * cn 4 false (cl th) (cl el)))) /\ Below W.heap.size W w' := by
 obtain ⟨W1, hW1⟩ : ∃ W1, W1 = W.alloc (.cells #[.int .i64 4, .int .i64 op, .int .u16 v, .string nm, .slice q1 th.length d1, .slice q2 el.length d2, .bool false, .int .i64 p.1, .int .i64 p.2] 90) := ⟨_, rfl⟩
 have z1 : Below W.heap.size W W1 := by rw [hW1]; exact (Below.refl _ _).alloc (Nat.le_refl _) _
 have v1 : W1.heap[W.heap.size]? = some (.cells (ndc (.mk 4 op v nm th el false p) (.slice q1 th.length d1) (.slice q2 el.length d2)).toArray 90 (0, 0)) := by rw [hW1]; exact heap_alloc_new W _
 obtain ⟨x0, x1, x2, x3, x4, x5, x6, x7, x8⟩ := cells9 (b := W.heap.size) (o := 0) fun j x hx => by rw [Nat.zero_add]; exact S.cell_of W1 _ j _ 90 x v1 hx
 simp only [Nat.zero_add, Nd.k, Nd.op, Nd.v, Nd.nm, Nd.has, Nd.p] at x0 x1 x2 x3 x4 x5 x6 x7 x8
 have HH := hid z1
 have HV := hid v1
 have cT : ∀ w', Below W1.heap.size W1 w' -> Calls Tryz.prog 83 #[.slice q1 th.length d1] w' fun e w2 => e = .returned (.int .i64 (wrap64 (2 * cl th))) /\ Below W1.heap.size W1 w2 := fun w' hb =>
  (sizes_of th h1 _ O w' (fun i hi => Nat.lt_of_lt_of_le (Nat.lt_of_lt_of_le (hO i hi) z1.size) hb.size) ((ht.below z1 hO).below hb fun i hi => Nat.lt_of_lt_of_le (hO i hi) z1.size)).mono fun e w2 h => ⟨h.1, hb.trans (h.2.mono hb.size)⟩
 generalize hs : wrap64 (2 * cl th) = s at *
 generalize hz : wrap64 (2 * cl el) = z at *
 have HS := hid (And.intro hs hz)
 clear hs hz
 clear ht he z1 v1 hO h1 h2
 go_enter Tryz.func134, Tryz.ntmps134
 go_wp2_with fail
 try rw [<- hW1]
 refine (cT W1 (Below.refl _ _)).mono ?_
 rintro e w3 ⟨rfl, hb3⟩
 have HB3 := hid (HH.out.trans (hb3.mono HH.out.size))
 clear hb3 cT x0 x1 x2 x3 x4 x5 x6 x7 x8 hW1
 go_wp2
 go_ret
 refine ⟨?_, HB3.out⟩
 rw [<- HS.out.1]
 simp only [w_al, w_ar]
 exact ret_eq (by unfold cn; simp only [reduceIte, Int.reduceEq, or_false, or_true, true_or, false_or, Bool.false_eq_true]; try omega)
theorem so_4t (op v : Int) (nm : ByteArray) (th el : List Nd) (p : Ps) (h1 : ∀ m ∈ th, SZ m) (h2 : ∀ m ∈ el, SZ m) (q1 q2 : Option Addr) (d1 d2 : Nat) (O : Nat -> Prop) (W : World) (hO : ∀ i, O i -> i < W.heap.size) (ht : NV W O (.slice q1 th.length d1) th) (he : NV W O (.slice q2 el.length d2) el) :
  Calls Tryz.prog 134 #[.agg #[.int .i64 4, .int .i64 op, .int .u16 v, .string nm, .slice q1 th.length d1, .slice q2 el.length d2, .bool true, .int .i64 p.1, .int .i64 p.2]] W fun e w' => e = .returned (.int .i64 (wrap64 (2 * cn 4 true (cl th) (cl el)))) /\ Below W.heap.size W w' := by
 obtain ⟨W1, hW1⟩ : ∃ W1, W1 = W.alloc (.cells #[.int .i64 4, .int .i64 op, .int .u16 v, .string nm, .slice q1 th.length d1, .slice q2 el.length d2, .bool true, .int .i64 p.1, .int .i64 p.2] 90) := ⟨_, rfl⟩
 have z1 : Below W.heap.size W W1 := by rw [hW1]; exact (Below.refl _ _).alloc (Nat.le_refl _) _
 have v1 : W1.heap[W.heap.size]? = some (.cells (ndc (.mk 4 op v nm th el true p) (.slice q1 th.length d1) (.slice q2 el.length d2)).toArray 90 (0, 0)) := by rw [hW1]; exact heap_alloc_new W _
 obtain ⟨x0, x1, x2, x3, x4, x5, x6, x7, x8⟩ := cells9 (b := W.heap.size) (o := 0) fun j x hx => by rw [Nat.zero_add]; exact S.cell_of W1 _ j _ 90 x v1 hx
 simp only [Nat.zero_add, Nd.k, Nd.op, Nd.v, Nd.nm, Nd.has, Nd.p] at x0 x1 x2 x3 x4 x5 x6 x7 x8
 have HH := hid z1
 have HV := hid v1
 have cT : ∀ w', Below W1.heap.size W1 w' -> Calls Tryz.prog 83 #[.slice q1 th.length d1] w' fun e w2 => e = .returned (.int .i64 (wrap64 (2 * cl th))) /\ Below W1.heap.size W1 w2 := fun w' hb =>
  (sizes_of th h1 _ O w' (fun i hi => Nat.lt_of_lt_of_le (Nat.lt_of_lt_of_le (hO i hi) z1.size) hb.size) ((ht.below z1 hO).below hb fun i hi => Nat.lt_of_lt_of_le (hO i hi) z1.size)).mono fun e w2 h => ⟨h.1, hb.trans (h.2.mono hb.size)⟩
 have cE : ∀ w', Below W1.heap.size W1 w' -> Calls Tryz.prog 83 #[.slice q2 el.length d2] w' fun e w2 => e = .returned (.int .i64 (wrap64 (2 * cl el))) /\ Below W1.heap.size W1 w2 := fun w' hb =>
  (sizes_of el h2 _ O w' (fun i hi => Nat.lt_of_lt_of_le (Nat.lt_of_lt_of_le (hO i hi) z1.size) hb.size) ((he.below z1 hO).below hb fun i hi => Nat.lt_of_lt_of_le (hO i hi) z1.size)).mono fun e w2 h => ⟨h.1, hb.trans (h.2.mono hb.size)⟩
 generalize hs : wrap64 (2 * cl th) = s at *
 generalize hz : wrap64 (2 * cl el) = z at *
 have HS := hid (And.intro hs hz)
 clear hs hz
 clear ht he z1 v1 hO h1 h2
 go_enter Tryz.func134, Tryz.ntmps134
 have s0 : W1.drew.cell? ⟨W.heap.size, 4, none⟩ = some (.slice q1 th.length d1) /\ W1.drew.cell? ⟨W.heap.size, 5, none⟩ = some (.slice q2 el.length d2) := ⟨x4, x5⟩
 have B0 := hid (Below.refl W1.heap.size W1).drew
 have kc : ∀ w', Below W1.heap.size W1 w' -> w'.cell? ⟨W.heap.size, 4, none⟩ = some (.slice q1 th.length d1) /\ w'.cell? ⟨W.heap.size, 5, none⟩ = some (.slice q2 el.length d2) := fun w' hb => by
  have := (hb.block _ (S.lt_of HV.out)).trans HV.out
  exact ⟨S.cell_of w' _ 4 _ 90 _ this rfl, S.cell_of w' _ 5 _ 90 _ this rfl⟩
 have HKC := hid kc
 have HCT := hid cT
 have HCE := hid cE
 clear kc cT cE
 go_wp2_with fail
 rw [<- hW1]
 clear hW1 x0 x1 x2 x3 x4 x5 x6 x7 x8
 go_region_held (fun w' => w'.cell? ⟨W.heap.size, 4, none⟩ = some (.slice q1 th.length d1) /\ w'.cell? ⟨W.heap.size, 5, none⟩ = some (.slice q2 el.length d2))
  (first | (with_reducible exact s0) | (with_reducible exact s1))
  (first | (go_at_call 83; refine (HCT.out _ (by first | (with_reducible exact B1.out) | (with_reducible exact B0.out))).mono ?_; rintro e w1 ⟨rfl, hb1⟩; have s1 := HKC.out _ hb1; have B1 := hid hb1; clear hb1 HCT) | (go_at_call 83; refine (HCE.out _ (by first | (with_reducible exact B1.out) | (with_reducible exact B0.out))).mono ?_; rintro e w1 ⟨rfl, hb1⟩; have s1 := HKC.out _ hb1; have B1 := hid hb1; clear hb1))
 all_goals
  try simp only [Act.put, List.setIfInBounds_toArray, List.set_cons_zero, List.set_cons_succ]
  go_wp2
  go_ret
  refine ⟨?_, HH.out.trans (B1.out.mono HH.out.size)⟩
  rw [<- HS.out.1, <- HS.out.2]
  simp only [IntWalk.i64_left, w_al, w_ar]
  refine ret_eq ?_
  unfold cn
  simp only [reduceIte, Int.reduceEq, or_false, or_true, true_or, false_or]
  omega
theorem so_5 (op v : Int) (nm : ByteArray) (th el : List Nd) (has : Bool) (p : Ps) (h1 : ∀ m ∈ th, SZ m) (h2 : ∀ m ∈ el, SZ m) (q1 q2 : Option Addr) (d1 d2 : Nat) (O : Nat -> Prop) (W : World) (hO : ∀ i, O i -> i < W.heap.size) (ht : NV W O (.slice q1 th.length d1) th) (he : NV W O (.slice q2 el.length d2) el) :
  Calls Tryz.prog 134 #[.agg #[.int .i64 5, .int .i64 op, .int .u16 v, .string nm, .slice q1 th.length d1, .slice q2 el.length d2, .bool has, .int .i64 p.1, .int .i64 p.2]] W fun e w' => e = .returned (.int .i64 (wrap64 (2 * cn 5 has (cl th) (cl el)))) /\ Below W.heap.size W w' := by
 obtain ⟨W1, hW1⟩ : ∃ W1, W1 = W.alloc (.cells #[.int .i64 5, .int .i64 op, .int .u16 v, .string nm, .slice q1 th.length d1, .slice q2 el.length d2, .bool has, .int .i64 p.1, .int .i64 p.2] 90) := ⟨_, rfl⟩
 have z1 : Below W.heap.size W W1 := by rw [hW1]; exact (Below.refl _ _).alloc (Nat.le_refl _) _
 have v1 : W1.heap[W.heap.size]? = some (.cells (ndc (.mk 5 op v nm th el has p) (.slice q1 th.length d1) (.slice q2 el.length d2)).toArray 90 (0, 0)) := by rw [hW1]; exact heap_alloc_new W _
 obtain ⟨x0, x1, x2, x3, x4, x5, x6, x7, x8⟩ := cells9 (b := W.heap.size) (o := 0) fun j x hx => by rw [Nat.zero_add]; exact S.cell_of W1 _ j _ 90 x v1 hx
 simp only [Nat.zero_add, Nd.k, Nd.op, Nd.v, Nd.nm, Nd.has, Nd.p] at x0 x1 x2 x3 x4 x5 x6 x7 x8
 have HH := hid z1
 have HV := hid v1
 have cT : ∀ w', Below W1.heap.size W1 w' -> Calls Tryz.prog 83 #[.slice q1 th.length d1] w' fun e w2 => e = .returned (.int .i64 (wrap64 (2 * cl th))) /\ Below W1.heap.size W1 w2 := fun w' hb =>
  (sizes_of th h1 _ O w' (fun i hi => Nat.lt_of_lt_of_le (Nat.lt_of_lt_of_le (hO i hi) z1.size) hb.size) ((ht.below z1 hO).below hb fun i hi => Nat.lt_of_lt_of_le (hO i hi) z1.size)).mono fun e w2 h => ⟨h.1, hb.trans (h.2.mono hb.size)⟩
 generalize hs : wrap64 (2 * cl th) = s at *
 generalize hz : wrap64 (2 * cl el) = z at *
 have HS := hid (And.intro hs hz)
 clear hs hz
 clear ht he z1 v1 hO h1 h2
 go_enter Tryz.func134, Tryz.ntmps134
 go_wp2_with fail
 try rw [<- hW1]
 refine (cT W1 (Below.refl _ _)).mono ?_
 rintro e w3 ⟨rfl, hb3⟩
 have HB3 := hid (HH.out.trans (hb3.mono HH.out.size))
 clear hb3 cT x0 x1 x2 x3 x4 x5 x6 x7 x8 hW1
 go_wp2
 go_ret
 refine ⟨?_, HB3.out⟩
 rw [<- HS.out.1]
 simp only [w_al, w_ar]
 exact ret_eq (by unfold cn; simp only [reduceIte, Int.reduceEq, or_false, or_true, true_or, false_or, Bool.false_eq_true]; try omega)
theorem so_6 (op v : Int) (nm : ByteArray) (th el : List Nd) (has : Bool) (p : Ps) (h1 : ∀ m ∈ th, SZ m) (h2 : ∀ m ∈ el, SZ m) (q1 q2 : Option Addr) (d1 d2 : Nat) (O : Nat -> Prop) (W : World) (hO : ∀ i, O i -> i < W.heap.size) (ht : NV W O (.slice q1 th.length d1) th) (he : NV W O (.slice q2 el.length d2) el) :
  Calls Tryz.prog 134 #[.agg #[.int .i64 6, .int .i64 op, .int .u16 v, .string nm, .slice q1 th.length d1, .slice q2 el.length d2, .bool has, .int .i64 p.1, .int .i64 p.2]] W fun e w' => e = .returned (.int .i64 (wrap64 (2 * cn 6 has (cl th) (cl el)))) /\ Below W.heap.size W w' := by
 obtain ⟨W1, hW1⟩ : ∃ W1, W1 = W.alloc (.cells #[.int .i64 6, .int .i64 op, .int .u16 v, .string nm, .slice q1 th.length d1, .slice q2 el.length d2, .bool has, .int .i64 p.1, .int .i64 p.2] 90) := ⟨_, rfl⟩
 have z1 : Below W.heap.size W W1 := by rw [hW1]; exact (Below.refl _ _).alloc (Nat.le_refl _) _
 have v1 : W1.heap[W.heap.size]? = some (.cells (ndc (.mk 6 op v nm th el has p) (.slice q1 th.length d1) (.slice q2 el.length d2)).toArray 90 (0, 0)) := by rw [hW1]; exact heap_alloc_new W _
 obtain ⟨x0, x1, x2, x3, x4, x5, x6, x7, x8⟩ := cells9 (b := W.heap.size) (o := 0) fun j x hx => by rw [Nat.zero_add]; exact S.cell_of W1 _ j _ 90 x v1 hx
 simp only [Nat.zero_add, Nd.k, Nd.op, Nd.v, Nd.nm, Nd.has, Nd.p] at x0 x1 x2 x3 x4 x5 x6 x7 x8
 have HH := hid z1
 have HV := hid v1
 have cT : ∀ w', Below W1.heap.size W1 w' -> Calls Tryz.prog 83 #[.slice q1 th.length d1] w' fun e w2 => e = .returned (.int .i64 (wrap64 (2 * cl th))) /\ Below W1.heap.size W1 w2 := fun w' hb =>
  (sizes_of th h1 _ O w' (fun i hi => Nat.lt_of_lt_of_le (Nat.lt_of_lt_of_le (hO i hi) z1.size) hb.size) ((ht.below z1 hO).below hb fun i hi => Nat.lt_of_lt_of_le (hO i hi) z1.size)).mono fun e w2 h => ⟨h.1, hb.trans (h.2.mono hb.size)⟩
 have cE : ∀ w', Below W1.heap.size W1 w' -> Calls Tryz.prog 83 #[.slice q2 el.length d2] w' fun e w2 => e = .returned (.int .i64 (wrap64 (2 * cl el))) /\ Below W1.heap.size W1 w2 := fun w' hb =>
  (sizes_of el h2 _ O w' (fun i hi => Nat.lt_of_lt_of_le (Nat.lt_of_lt_of_le (hO i hi) z1.size) hb.size) ((he.below z1 hO).below hb fun i hi => Nat.lt_of_lt_of_le (hO i hi) z1.size)).mono fun e w2 h => ⟨h.1, hb.trans (h.2.mono hb.size)⟩
 generalize hs : wrap64 (2 * cl th) = s at *
 generalize hz : wrap64 (2 * cl el) = z at *
 have HS := hid (And.intro hs hz)
 clear hs hz
 clear ht he z1 v1 hO h1 h2
 go_enter Tryz.func134, Tryz.ntmps134
 have s0 : W1.drew.cell? ⟨W.heap.size, 4, none⟩ = some (.slice q1 th.length d1) /\ W1.drew.cell? ⟨W.heap.size, 5, none⟩ = some (.slice q2 el.length d2) := ⟨x4, x5⟩
 have B0 := hid (Below.refl W1.heap.size W1).drew
 have kc : ∀ w', Below W1.heap.size W1 w' -> w'.cell? ⟨W.heap.size, 4, none⟩ = some (.slice q1 th.length d1) /\ w'.cell? ⟨W.heap.size, 5, none⟩ = some (.slice q2 el.length d2) := fun w' hb => by
  have := (hb.block _ (S.lt_of HV.out)).trans HV.out
  exact ⟨S.cell_of w' _ 4 _ 90 _ this rfl, S.cell_of w' _ 5 _ 90 _ this rfl⟩
 have HKC := hid kc
 have HCT := hid cT
 have HCE := hid cE
 clear kc cT cE
 go_wp2_with fail
 rw [<- hW1]
 clear hW1 x0 x1 x2 x3 x4 x5 x6 x7 x8
 go_region_held (fun w' => w'.cell? ⟨W.heap.size, 4, none⟩ = some (.slice q1 th.length d1) /\ w'.cell? ⟨W.heap.size, 5, none⟩ = some (.slice q2 el.length d2))
  (first | (with_reducible exact s0) | (with_reducible exact s1))
  (first | (go_at_call 83; refine (HCT.out _ (by first | (with_reducible exact B1.out) | (with_reducible exact B0.out))).mono ?_; rintro e w1 ⟨rfl, hb1⟩; have s1 := HKC.out _ hb1; have B1 := hid hb1; clear hb1 HCT) | (go_at_call 83; refine (HCE.out _ (by first | (with_reducible exact B1.out) | (with_reducible exact B0.out))).mono ?_; rintro e w1 ⟨rfl, hb1⟩; have s1 := HKC.out _ hb1; have B1 := hid hb1; clear hb1))
 all_goals
  try simp only [Act.put, List.setIfInBounds_toArray, List.set_cons_zero, List.set_cons_succ]
  go_wp2
  go_ret
  refine ⟨?_, HH.out.trans (B1.out.mono HH.out.size)⟩
  rw [<- HS.out.1, <- HS.out.2]
  simp only [IntWalk.i64_left, w_al, w_ar]
  refine ret_eq ?_
  unfold cn
  simp only [reduceIte, Int.reduceEq, or_false, or_true, true_or, false_or]
  omega
theorem so_7 (op v : Int) (nm : ByteArray) (th el : List Nd) (has : Bool) (p : Ps) (h1 : ∀ m ∈ th, SZ m) (h2 : ∀ m ∈ el, SZ m) (q1 q2 : Option Addr) (d1 d2 : Nat) (O : Nat -> Prop) (W : World) (hO : ∀ i, O i -> i < W.heap.size) (ht : NV W O (.slice q1 th.length d1) th) (he : NV W O (.slice q2 el.length d2) el) :
  Calls Tryz.prog 134 #[.agg #[.int .i64 7, .int .i64 op, .int .u16 v, .string nm, .slice q1 th.length d1, .slice q2 el.length d2, .bool has, .int .i64 p.1, .int .i64 p.2]] W fun e w' => e = .returned (.int .i64 (wrap64 (2 * cn 7 has (cl th) (cl el)))) /\ Below W.heap.size W w' := by
 obtain ⟨W1, hW1⟩ : ∃ W1, W1 = W.alloc (.cells #[.int .i64 7, .int .i64 op, .int .u16 v, .string nm, .slice q1 th.length d1, .slice q2 el.length d2, .bool has, .int .i64 p.1, .int .i64 p.2] 90) := ⟨_, rfl⟩
 have z1 : Below W.heap.size W W1 := by rw [hW1]; exact (Below.refl _ _).alloc (Nat.le_refl _) _
 have v1 : W1.heap[W.heap.size]? = some (.cells (ndc (.mk 7 op v nm th el has p) (.slice q1 th.length d1) (.slice q2 el.length d2)).toArray 90 (0, 0)) := by rw [hW1]; exact heap_alloc_new W _
 obtain ⟨x0, x1, x2, x3, x4, x5, x6, x7, x8⟩ := cells9 (b := W.heap.size) (o := 0) fun j x hx => by rw [Nat.zero_add]; exact S.cell_of W1 _ j _ 90 x v1 hx
 simp only [Nat.zero_add, Nd.k, Nd.op, Nd.v, Nd.nm, Nd.has, Nd.p] at x0 x1 x2 x3 x4 x5 x6 x7 x8
 have HH := hid z1
 have HV := hid v1
 have cT : ∀ w', Below W1.heap.size W1 w' -> Calls Tryz.prog 83 #[.slice q1 th.length d1] w' fun e w2 => e = .returned (.int .i64 (wrap64 (2 * cl th))) /\ Below W1.heap.size W1 w2 := fun w' hb =>
  (sizes_of th h1 _ O w' (fun i hi => Nat.lt_of_lt_of_le (Nat.lt_of_lt_of_le (hO i hi) z1.size) hb.size) ((ht.below z1 hO).below hb fun i hi => Nat.lt_of_lt_of_le (hO i hi) z1.size)).mono fun e w2 h => ⟨h.1, hb.trans (h.2.mono hb.size)⟩
 generalize hs : wrap64 (2 * cl th) = s at *
 generalize hz : wrap64 (2 * cl el) = z at *
 have HS := hid (And.intro hs hz)
 clear hs hz
 clear ht he z1 v1 hO h1 h2
 go_enter Tryz.func134, Tryz.ntmps134
 go_wp2_with fail
 try rw [<- hW1]
 refine (cT W1 (Below.refl _ _)).mono ?_
 rintro e w3 ⟨rfl, hb3⟩
 have HB3 := hid (HH.out.trans (hb3.mono HH.out.size))
 clear hb3 cT x0 x1 x2 x3 x4 x5 x6 x7 x8 hW1
 go_wp2
 go_ret
 refine ⟨?_, HB3.out⟩
 rw [<- HS.out.1]
 simp only [w_al, w_ar]
 exact ret_eq (by unfold cn; simp only [reduceIte, Int.reduceEq, or_false, or_true, true_or, false_or, Bool.false_eq_true]; try omega)
theorem so_8 (op v : Int) (nm : ByteArray) (th el : List Nd) (has : Bool) (p : Ps) (h1 : ∀ m ∈ th, SZ m) (h2 : ∀ m ∈ el, SZ m) (q1 q2 : Option Addr) (d1 d2 : Nat) (O : Nat -> Prop) (W : World) (hO : ∀ i, O i -> i < W.heap.size) (ht : NV W O (.slice q1 th.length d1) th) (he : NV W O (.slice q2 el.length d2) el) :
  Calls Tryz.prog 134 #[.agg #[.int .i64 8, .int .i64 op, .int .u16 v, .string nm, .slice q1 th.length d1, .slice q2 el.length d2, .bool has, .int .i64 p.1, .int .i64 p.2]] W fun e w' => e = .returned (.int .i64 (wrap64 (2 * cn 8 has (cl th) (cl el)))) /\ Below W.heap.size W w' := by
 obtain ⟨W1, hW1⟩ : ∃ W1, W1 = W.alloc (.cells #[.int .i64 8, .int .i64 op, .int .u16 v, .string nm, .slice q1 th.length d1, .slice q2 el.length d2, .bool has, .int .i64 p.1, .int .i64 p.2] 90) := ⟨_, rfl⟩
 have z1 : Below W.heap.size W W1 := by rw [hW1]; exact (Below.refl _ _).alloc (Nat.le_refl _) _
 have v1 : W1.heap[W.heap.size]? = some (.cells (ndc (.mk 8 op v nm th el has p) (.slice q1 th.length d1) (.slice q2 el.length d2)).toArray 90 (0, 0)) := by rw [hW1]; exact heap_alloc_new W _
 obtain ⟨x0, x1, x2, x3, x4, x5, x6, x7, x8⟩ := cells9 (b := W.heap.size) (o := 0) fun j x hx => by rw [Nat.zero_add]; exact S.cell_of W1 _ j _ 90 x v1 hx
 simp only [Nat.zero_add, Nd.k, Nd.op, Nd.v, Nd.nm, Nd.has, Nd.p] at x0 x1 x2 x3 x4 x5 x6 x7 x8
 have HH := hid z1
 have HV := hid v1
 have cT : ∀ w', Below W1.heap.size W1 w' -> Calls Tryz.prog 83 #[.slice q1 th.length d1] w' fun e w2 => e = .returned (.int .i64 (wrap64 (2 * cl th))) /\ Below W1.heap.size W1 w2 := fun w' hb =>
  (sizes_of th h1 _ O w' (fun i hi => Nat.lt_of_lt_of_le (Nat.lt_of_lt_of_le (hO i hi) z1.size) hb.size) ((ht.below z1 hO).below hb fun i hi => Nat.lt_of_lt_of_le (hO i hi) z1.size)).mono fun e w2 h => ⟨h.1, hb.trans (h.2.mono hb.size)⟩
 generalize hs : wrap64 (2 * cl th) = s at *
 generalize hz : wrap64 (2 * cl el) = z at *
 have HS := hid (And.intro hs hz)
 clear hs hz
 clear ht he z1 v1 hO h1 h2
 go_enter Tryz.func134, Tryz.ntmps134
 go_wp2_with fail
 try rw [<- hW1]
 refine (cT W1 (Below.refl _ _)).mono ?_
 rintro e w3 ⟨rfl, hb3⟩
 have HB3 := hid (HH.out.trans (hb3.mono HH.out.size))
 clear hb3 cT x0 x1 x2 x3 x4 x5 x6 x7 x8 hW1
 go_wp2
 go_ret
 refine ⟨?_, HB3.out⟩
 rw [<- HS.out.1]
 simp only [w_al, w_ar]
 exact ret_eq (by unfold cn; simp only [reduceIte, Int.reduceEq, or_false, or_true, true_or, false_or, Bool.false_eq_true]; try omega)
theorem so_9 (op v : Int) (nm : ByteArray) (th el : List Nd) (has : Bool) (p : Ps) (h1 : ∀ m ∈ th, SZ m) (h2 : ∀ m ∈ el, SZ m) (q1 q2 : Option Addr) (d1 d2 : Nat) (O : Nat -> Prop) (W : World) (hO : ∀ i, O i -> i < W.heap.size) (ht : NV W O (.slice q1 th.length d1) th) (he : NV W O (.slice q2 el.length d2) el) :
  Calls Tryz.prog 134 #[.agg #[.int .i64 9, .int .i64 op, .int .u16 v, .string nm, .slice q1 th.length d1, .slice q2 el.length d2, .bool has, .int .i64 p.1, .int .i64 p.2]] W fun e w' => e = .returned (.int .i64 (wrap64 (2 * cn 9 has (cl th) (cl el)))) /\ Below W.heap.size W w' := by
 obtain ⟨W1, hW1⟩ : ∃ W1, W1 = W.alloc (.cells #[.int .i64 9, .int .i64 op, .int .u16 v, .string nm, .slice q1 th.length d1, .slice q2 el.length d2, .bool has, .int .i64 p.1, .int .i64 p.2] 90) := ⟨_, rfl⟩
 have z1 : Below W.heap.size W W1 := by rw [hW1]; exact (Below.refl _ _).alloc (Nat.le_refl _) _
 have v1 : W1.heap[W.heap.size]? = some (.cells (ndc (.mk 9 op v nm th el has p) (.slice q1 th.length d1) (.slice q2 el.length d2)).toArray 90 (0, 0)) := by rw [hW1]; exact heap_alloc_new W _
 obtain ⟨x0, x1, x2, x3, x4, x5, x6, x7, x8⟩ := cells9 (b := W.heap.size) (o := 0) fun j x hx => by rw [Nat.zero_add]; exact S.cell_of W1 _ j _ 90 x v1 hx
 simp only [Nat.zero_add, Nd.k, Nd.op, Nd.v, Nd.nm, Nd.has, Nd.p] at x0 x1 x2 x3 x4 x5 x6 x7 x8
 have HH := hid z1
 have HV := hid v1
 clear ht he z1 v1 hO h1 h2
 go_enter Tryz.func134, Tryz.ntmps134
 go_wp2
 try rw [<- hW1]
 go_ret
 exact ⟨by unfold cn; simp only [reduceIte, Int.reduceEq, or_false, or_true, true_or, false_or]; rw [w_in _ (by omega)]; rfl, HH.out⟩
theorem so_r (k : Int) (hk : ¬ k = 1 /\ ¬ k = 2 /\ ¬ k = 3 /\ ¬ k = 4 /\ ¬ k = 5 /\ ¬ k = 6 /\ ¬ k = 7 /\ ¬ k = 8 /\ ¬ k = 9) (op v : Int) (nm : ByteArray) (th el : List Nd) (has : Bool) (p : Ps) (h1 : ∀ m ∈ th, SZ m) (h2 : ∀ m ∈ el, SZ m) (q1 q2 : Option Addr) (d1 d2 : Nat) (O : Nat -> Prop) (W : World) (hO : ∀ i, O i -> i < W.heap.size) (ht : NV W O (.slice q1 th.length d1) th) (he : NV W O (.slice q2 el.length d2) el) :
  Calls Tryz.prog 134 #[.agg #[.int .i64 k, .int .i64 op, .int .u16 v, .string nm, .slice q1 th.length d1, .slice q2 el.length d2, .bool has, .int .i64 p.1, .int .i64 p.2]] W fun e w' => e = .returned (.int .i64 (wrap64 (2 * cn k has (cl th) (cl el)))) /\ Below W.heap.size W w' := by
 obtain ⟨W1, hW1⟩ : ∃ W1, W1 = W.alloc (.cells #[.int .i64 k, .int .i64 op, .int .u16 v, .string nm, .slice q1 th.length d1, .slice q2 el.length d2, .bool has, .int .i64 p.1, .int .i64 p.2] 90) := ⟨_, rfl⟩
 have z1 : Below W.heap.size W W1 := by rw [hW1]; exact (Below.refl _ _).alloc (Nat.le_refl _) _
 have v1 : W1.heap[W.heap.size]? = some (.cells (ndc (.mk k op v nm th el has p) (.slice q1 th.length d1) (.slice q2 el.length d2)).toArray 90 (0, 0)) := by rw [hW1]; exact heap_alloc_new W _
 obtain ⟨x0, x1, x2, x3, x4, x5, x6, x7, x8⟩ := cells9 (b := W.heap.size) (o := 0) fun j x hx => by rw [Nat.zero_add]; exact S.cell_of W1 _ j _ 90 x v1 hx
 simp only [Nat.zero_add, Nd.k, Nd.op, Nd.v, Nd.nm, Nd.has, Nd.p] at x0 x1 x2 x3 x4 x5 x6 x7 x8
 have HH := hid z1
 have HV := hid v1
 obtain ⟨n1, n2, n3, n4, n5, n6, n7, n8, n9⟩ := hk
 have E : cn k has (cl th) (cl el) = 0 := by unfold cn; simp [n1, n2, n3, n4, n5, n6, n7, n8, n9]
 rw [E]
 have HE := hid E
 clear E
 have b1 : (k == 1) = false := by rw [Bool.eq_false_iff]; intro c; exact n1 (by simpa using c)
 have b2 : (k == 2) = false := by rw [Bool.eq_false_iff]; intro c; exact n2 (by simpa using c)
 have b3 : (k == 3) = false := by rw [Bool.eq_false_iff]; intro c; exact n3 (by simpa using c)
 have b4 : (k == 4) = false := by rw [Bool.eq_false_iff]; intro c; exact n4 (by simpa using c)
 have b5 : (k == 5) = false := by rw [Bool.eq_false_iff]; intro c; exact n5 (by simpa using c)
 have b6 : (k == 6) = false := by rw [Bool.eq_false_iff]; intro c; exact n6 (by simpa using c)
 have b7 : (k == 7) = false := by rw [Bool.eq_false_iff]; intro c; exact n7 (by simpa using c)
 have b8 : (k == 8) = false := by rw [Bool.eq_false_iff]; intro c; exact n8 (by simpa using c)
 have b9 : (k == 9) = false := by rw [Bool.eq_false_iff]; intro c; exact n9 (by simpa using c)
 clear n1 n2 n3 n4 n5 n6 n7 n8 n9
 clear ht he z1 v1 hO h1 h2
 go_enter Tryz.func134, Tryz.ntmps134
 go_wp2
 try rw [<- hW1]
 go_ret
 exact ⟨by rw [w_in _ (by omega)]; rfl, HH.out⟩
theorem so_one (n : Nd) (h1 : ∀ m ∈ n.th, SZ m) (h2 : ∀ m ∈ n.el, SZ m) : SZ n := by
 intro tv ev O W hO ht he
 obtain ⟨q1, d1, rfl, _, _⟩ := ht.ex
 obtain ⟨q2, d2, rfl, _, _⟩ := he.ex
 obtain ⟨k, op, v, nm, th, el, has, p⟩ := n
 rw [ce_is]
 by_cases c1 : k = 1
 ·subst c1; exact so_1 op v nm th el has p h1 h2 q1 q2 d1 d2 O W hO ht he
 by_cases c2 : k = 2
 ·subst c2
  exact so_2 op v nm th el has p h1 h2 q1 q2 d1 d2 O W hO ht he
 by_cases c3 : k = 3
 ·subst c3
  exact so_3 op v nm th el has p h1 h2 q1 q2 d1 d2 O W hO ht he
 by_cases c4 : k = 4
 ·subst c4
  cases has
  ·exact so_4f op v nm th el p h1 h2 q1 q2 d1 d2 O W hO ht he
  ·exact so_4t op v nm th el p h1 h2 q1 q2 d1 d2 O W hO ht he
 by_cases c5 : k = 5
 ·subst c5
  exact so_5 op v nm th el has p h1 h2 q1 q2 d1 d2 O W hO ht he
 by_cases c6 : k = 6
 ·subst c6
  exact so_6 op v nm th el has p h1 h2 q1 q2 d1 d2 O W hO ht he
 by_cases c7 : k = 7
 ·subst c7
  exact so_7 op v nm th el has p h1 h2 q1 q2 d1 d2 O W hO ht he
 by_cases c8 : k = 8
 ·subst c8
  exact so_8 op v nm th el has p h1 h2 q1 q2 d1 d2 O W hO ht he
 by_cases c9 : k = 9
 ·subst c9
  exact so_9 op v nm th el has p h1 h2 q1 q2 d1 d2 O W hO ht he
 exact so_r k ⟨c1, c2, c3, c4, c5, c6, c7, c8, c9⟩ op v nm th el has p h1 h2 q1 q2 d1 d2 O W hO ht he
theorem sizeOf_any (n : Nd) : SZ n := Nd.ind (fun n h1 h2 => so_one n h1 h2) n
theorem size_any (l : List Nd) (v : Value) (O : Nat -> Prop) (W : World) (hO : ∀ i, O i -> i < W.heap.size) (h : NV W O v l) :
  Calls Tryz.prog 83 #[v] W fun e w' => e = .returned (.int .i64 (wrap64 (2 * cl l))) /\ Below W.heap.size W w' := sizes_of l (fun m _ => sizeOf_any m) v O W hO h
def dfc (d : Df) (bv : Value) : List Value := [.int .i64 d.k, .string d.nm, .int .u16 d.v, bv, .int .i64 d.p.1, .int .i64 d.p.2]
def D1 (W : World) (O : Nat -> Prop) (b o : Nat) (d : Df) : Prop := ∃ bv, (∀ (j : Nat) (x : Value), (dfc d bv)[j]? = some x -> W.cell? ⟨b, o + j, none⟩ = some x) /\ NV W O bv d.body
def DV (W : World) (O : Nat -> Prop) (v : Value) (ds : List Df) : Prop := ∃ p c, v = .slice p ds.length c /\ ds.length <= 140737488355328 /\ ∀ (i : Nat) (d : Df), ds[i]? = some d -> ∃ b o, p = some ⟨b, o, none⟩ /\ O b /\ D1 W O b (o + i * 6) d
theorem cells6 {W : World} {b o : Nat} {n : Df} {bv : Value} (h : ∀ (j : Nat) (x : Value), (dfc n bv)[j]? = some x -> W.cell? ⟨b, o + j, none⟩ = some x) : W.cell? ⟨b, o, none⟩ = some (.int .i64 n.k) /\ W.cell? ⟨b, o + 1, none⟩ = some (.string n.nm) /\ W.cell? ⟨b, o + 2, none⟩ = some (.int .u16 n.v) /\ W.cell? ⟨b, o + 3, none⟩ = some bv /\ W.cell? ⟨b, o + 4, none⟩ = some (.int .i64 n.p.1) /\ W.cell? ⟨b, o + 5, none⟩ = some (.int .i64 n.p.2) :=
 ⟨h 0 _ rfl, h 1 _ rfl, h 2 _ rfl, h 3 _ rfl, h 4 _ rfl, h 5 _ rfl⟩
theorem D1.kept {W W' : World} {O O' : Nat -> Prop} {b o : Nat} {d : Df} (h : D1 W O b o d) (hb : W'.heap[b]? = W.heap[b]?) (k : ∀ i, O i -> W'.heap[i]? = W.heap[i]?) (m : ∀ i, O i -> O' i) : D1 W' O' b o d := by
 obtain ⟨bv, hc, hn⟩ := h
 exact ⟨bv, fun j x hx => (World.cell?_of_block (w := W) (a := ⟨b, o + j, none⟩) hb).trans (hc j x hx), hn.kept k m⟩
theorem DV.kept {W W' : World} {O O' : Nat -> Prop} {v : Value} {l : List Df} (h : DV W O v l) (k : ∀ i, O i -> W'.heap[i]? = W.heap[i]?) (m : ∀ i, O i -> O' i) : DV W' O' v l := by
 obtain ⟨p, c, rfl, hl, hp⟩ := h
 refine ⟨p, c, rfl, hl, fun i d hi => ?_⟩
 obtain ⟨b, o, e, hO, hD⟩ := hp i d hi
 exact ⟨b, o, e, m _ hO, hD.kept (k b hO) k m⟩
theorem DV.below {W W' : World} {O : Nat -> Prop} {v : Value} {l : List Df} (h : DV W O v l) (k : Below W.heap.size W W') (hO : ∀ i, O i -> i < W.heap.size) : DV W' O v l := h.kept (fun i hi => k.block i (hO i hi)) fun _ h => h
def rmc (r : Rm) : List Value := [.int .i64 r.1, .int .i64 r.2.1, .int .i64 r.2.2]
def plc (p : Pl) : List Value := [.string p.nm, .int .u16 p.at_, .int .i64 p.sz, .int .u16 p.ram]
def I6 (z : Int) : Prop := -9223372036854775808 <= z /\ z <= 9223372036854775807
def RI (r : Rm) : Prop := I6 r.1 /\ I6 r.2.1 /\ I6 r.2.2
theorem wt_ri (r : Rm) (d : Df) : RI (wt r d) := ⟨⟨w_lo _, w_hi _⟩, ⟨w_lo _, w_hi _⟩, w_lo _, w_hi _⟩
set_option maxHeartbeats 2000000
set_option maxRecDepth 100000
theorem w1 (r1 r2 r3 : Int) (nm : ByteArray) (v : Int) (body : List Nd) (p : Ps) (q1 : Option Addr) (d1 : Nat) (O : Nat -> Prop) (W : World) (hO : ∀ i, O i -> i < W.heap.size) (ht : NV W O (.slice q1 body.length d1) body) :
    Calls Tryz.prog 63 #[.agg #[.int .i64 r1, .int .i64 r2, .int .i64 r3], .agg #[.int .i64 1, .string nm, .int .u16 v, .slice q1 body.length d1, .int .i64 p.1, .int .i64 p.2]] W fun e w' => e = .returned (.agg #[.int .i64 (wrap64 (r1 + 1)), .int .i64 (wrap64 (r2 + (4 + 2 * cl body))), .int .i64 (r3)]) /\ Below W.heap.size W w' := by
  obtain ⟨W1, hW1⟩ : ∃ W1, W1 = ((W.alloc (.cells #[.int .i64 (wrap64 (r1 + 1)), .int .i64 r2, .int .i64 r3] 136)).alloc (.cells #[.int .i64 1, .string nm, .int .u16 v, .slice q1 body.length d1, .int .i64 p.1, .int .i64 p.2] 60)).alloc (.cells #[.int .i64 0, .int .i64 0, .int .i64 0] 136) := ⟨_, rfl⟩
  have z1 : Below W.heap.size W W1 := by rw [hW1]; exact (((Below.refl _ W).alloc (Nat.le_refl _) _).alloc (by simp) _).alloc (by simp; omega) _
  have zs : W1.heap.size = W.heap.size + 3 := by rw [hW1]; simp
  have s1 : (W.alloc (.cells #[.int .i64 (wrap64 (r1 + 1)), .int .i64 r2, .int .i64 r3] 136)).heap.size = W.heap.size + 1 := by simp
  have s2 : ((W.alloc (.cells #[.int .i64 (wrap64 (r1 + 1)), .int .i64 r2, .int .i64 r3] 136)).alloc (.cells #[.int .i64 1, .string nm, .int .u16 v, .slice q1 body.length d1, .int .i64 p.1, .int .i64 p.2] 60)).heap.size = W.heap.size + 2 := by simp
  have v0 : W1.heap[W.heap.size]? = some (.cells #[.int .i64 (wrap64 (r1 + 1)), .int .i64 r2, .int .i64 r3] 136 (0, 0)) := by rw [hW1]; exact (Below.heap_alloc _ _ _ (by omega)).trans ((Below.heap_alloc _ _ _ (by omega)).trans (heap_alloc_new W _))
  have v1 : W1.heap[W.heap.size + 1]? = some (.cells #[.int .i64 1, .string nm, .int .u16 v, .slice q1 body.length d1, .int .i64 p.1, .int .i64 p.2] 60 (0, 0)) := by rw [hW1]; exact (Below.heap_alloc _ _ _ (by omega)).trans (heap_alloc2_new W _ _)
  have v2 : W1.heap[W.heap.size + 2]? = some (.cells #[.int .i64 0, .int .i64 0, .int .i64 0] 136 (0, 0)) := by
    have := heap_alloc_new ((W.alloc (.cells #[.int .i64 (wrap64 (r1 + 1)), .int .i64 r2, .int .i64 r3] 136)).alloc (.cells #[.int .i64 1, .string nm, .int .u16 v, .slice q1 body.length d1, .int .i64 p.1, .int .i64 p.2] 60)) (.cells #[.int .i64 0, .int .i64 0, .int .i64 0] 136)
    rw [s2, <- hW1] at this; exact this
  go_enter Tryz.func63, Tryz.ntmps63
  have hcall2 : Calls Tryz.prog 83 #[.slice q1 body.length d1] W1.drew fun e w2 => e = .returned (.int .i64 (wrap64 (2 * cl body))) /\ Below W1.heap.size W1 w2 := by
    refine (size_any body _ O W1.drew (fun i hi => Nat.lt_of_lt_of_le (hO i hi) z1.size) (ht.below z1.drew hO)).mono ?_
    rintro e w2 ⟨h1, h2⟩
    exact ⟨h1, (Below.refl _ W1).drew.trans h2⟩
  have hB2 := z1
  have a1 := S.cell_of W1 W.heap.size 1 [.int .i64 (wrap64 (r1 + 1)), .int .i64 r2, .int .i64 r3] 136 _ v0 rfl
  have a3 := S.cell_of W1 (W.heap.size + 1) 3 [.int .i64 1, .string nm, .int .u16 v, .slice q1 body.length d1, .int .i64 p.1, .int .i64 p.2] 60 _ v1 rfl
  have u0 : W1.heap[W.heap.size]? = some (.cells [.int .i64 (wrap64 (r1 + 1)), .int .i64 r2, .int .i64 r3].toArray 136 (0, 0)) := v0
  have u1 := v1
  have u2 : W1.heap[W.heap.size + 2]? = some (.cells [.int .i64 0, .int .i64 0, .int .i64 0].toArray 136 (0, 0)) := v2
  have HU := hid (And.intro u0 (And.intro u1 u2))
  have HB := hid hB2
  clear ht hO z1 zs s1 s2 v0 v1 v2 u0 u1 u2 hB2
  go_wp2_with fail
  rw [<- hW1]
  clear hW1
  go_region_with (first | (go_at_call 83; refine hcall2.mono ?_; rintro e w1 ⟨rfl, hb1⟩; have HB1 := hid hb1; have y0 := (hb1.block _ (S.lt_of HU.out.1)).trans HU.out.1; have y1 := S.cell_of w1 W.heap.size 1 _ 136 _ y0 rfl; have y2 := S.frozen_of w1 W.heap.size 1 _ 136 y0; clear y0 hb1))
  all_goals
    try simp only [Act.put, List.setIfInBounds_toArray, List.set_cons_zero, List.set_cons_succ]
    clear y1 y2 hcall2 a1 a3
    have y0 := (HB1.out.block _ (S.lt_of HU.out.1)).trans HU.out.1
    have y2 := (HB1.out.block _ (S.lt_of HU.out.2.2)).trans HU.out.2.2
    generalize hV : IntKind.i64.wrap (r2 + IntKind.i64.wrap (IntKind.i64.wrap (2 + wrap64 (2 * cl body)) + 2)) = V at *
    have hV2 : V = wrap64 (r2 + (4 + 2 * cl body)) := by
      rw [<- hV]
      simp only [IntWalk.i64_left, w_al, w_ar]
      exact w_eq (by omega)
    have HV := hid hV2
    have HW : Hd (Below W.heap.size W (w1.setCell ⟨W.heap.size, 1, none⟩ (.int .i64 V))) := ⟨(HB.out.trans (HB1.out.mono HB.out.size)).setCell (p := ⟨W.heap.size, 1, none⟩) (Nat.le_refl _) _⟩
    have x0 := S.setCell_heap w1 W.heap.size 1 _ 136 (.int .i64 V) y0
    have x2 : (w1.setCell ⟨W.heap.size, 1, none⟩ (.int .i64 V)).heap[W.heap.size + 2]? = _ := (S.setCell_other w1 W.heap.size 1 (W.heap.size + 2) (.int .i64 V) (by omega)).trans y2
    clear hV hV2 y0 y2
    generalize w1.setCell ⟨W.heap.size, 1, none⟩ (.int .i64 V) = w3 at *
    have c0 := S.cell_of w3 W.heap.size 0 _ 136 _ x0 rfl
    have c1 := S.cell_of w3 W.heap.size 1 _ 136 _ x0 rfl
    have c2 := S.cell_of w3 W.heap.size 2 _ 136 _ x0 rfl
    have f0 := S.cell_of w3 (W.heap.size + 2) 0 _ 136 _ x2 rfl
    have f1 := S.cell_of w3 (W.heap.size + 2) 1 _ 136 _ x2 rfl
    have f2 := S.cell_of w3 (W.heap.size + 2) 2 _ 136 _ x2 rfl
    have g0 := S.frozen_of w3 (W.heap.size + 2) 0 _ 136 x2
    have g1 := S.frozen_of w3 (W.heap.size + 2) 1 _ 136 x2
    have g2 := S.frozen_of w3 (W.heap.size + 2) 2 _ 136 x2
    clear x0 x2
    go_wp2
    refine bodyPost_ret (v := .agg #[.int .i64 (wrap64 (r1 + 1)), .int .i64 V, .int .i64 r3]) ?_ rfl ⟨by rw [HV.out], ?_⟩
    · simp [results, Tryz.results63, go_sem, *]
    · repeat first
        | exact HW.out
        | refine Below.setCell (p := ⟨_, _, _⟩) ?_ (by simp; try omega) _
theorem w3 (r1 r2 r3 : Int) (nm : ByteArray) (v : Int) (body : List Nd) (p : Ps) (q1 : Option Addr) (d1 : Nat) (O : Nat -> Prop) (W : World) (hO : ∀ i, O i -> i < W.heap.size) (ht : NV W O (.slice q1 body.length d1) body) :
    Calls Tryz.prog 63 #[.agg #[.int .i64 r1, .int .i64 r2, .int .i64 r3], .agg #[.int .i64 3, .string nm, .int .u16 v, .slice q1 body.length d1, .int .i64 p.1, .int .i64 p.2]] W fun e w' => e = .returned (.agg #[.int .i64 (wrap64 (r1 + 1)), .int .i64 (wrap64 (r2 + 4)), .int .i64 (wrap64 (r3 + v))]) /\ Below W.heap.size W w' := by
  obtain ⟨W1, hW1⟩ : ∃ W1, W1 = ((W.alloc (.cells #[.int .i64 r1, .int .i64 r2, .int .i64 r3] 136)).alloc (.cells #[.int .i64 3, .string nm, .int .u16 v, .slice q1 body.length d1, .int .i64 p.1, .int .i64 p.2] 60)).alloc (.cells #[.int .i64 0, .int .i64 0, .int .i64 0] 136) := ⟨_, rfl⟩
  have z1 : Below W.heap.size W W1 := by rw [hW1]; exact (((Below.refl _ W).alloc (Nat.le_refl _) _).alloc (by simp) _).alloc (by simp; omega) _
  have zs : W1.heap.size = W.heap.size + 3 := by rw [hW1]; simp
  have s1 : (W.alloc (.cells #[.int .i64 r1, .int .i64 r2, .int .i64 r3] 136)).heap.size = W.heap.size + 1 := by simp
  have s2 : ((W.alloc (.cells #[.int .i64 r1, .int .i64 r2, .int .i64 r3] 136)).alloc (.cells #[.int .i64 3, .string nm, .int .u16 v, .slice q1 body.length d1, .int .i64 p.1, .int .i64 p.2] 60)).heap.size = W.heap.size + 2 := by simp
  have v0 : W1.heap[W.heap.size]? = some (.cells #[.int .i64 r1, .int .i64 r2, .int .i64 r3] 136 (0, 0)) := by rw [hW1]; exact (Below.heap_alloc _ _ _ (by omega)).trans ((Below.heap_alloc _ _ _ (by omega)).trans (heap_alloc_new W _))
  have v1 : W1.heap[W.heap.size + 1]? = some (.cells #[.int .i64 3, .string nm, .int .u16 v, .slice q1 body.length d1, .int .i64 p.1, .int .i64 p.2] 60 (0, 0)) := by rw [hW1]; exact (Below.heap_alloc _ _ _ (by omega)).trans (heap_alloc2_new W _ _)
  have v2 : W1.heap[W.heap.size + 2]? = some (.cells #[.int .i64 0, .int .i64 0, .int .i64 0] 136 (0, 0)) := by
    have := heap_alloc_new ((W.alloc (.cells #[.int .i64 r1, .int .i64 r2, .int .i64 r3] 136)).alloc (.cells #[.int .i64 3, .string nm, .int .u16 v, .slice q1 body.length d1, .int .i64 p.1, .int .i64 p.2] 60)) (.cells #[.int .i64 0, .int .i64 0, .int .i64 0] 136)
    rw [s2, <- hW1] at this; exact this
  clear ht hO
  clear z1 zs s1 s2 v0 v1 v2
  clear hW1 W1
  go_enter Tryz.func63, Tryz.ntmps63
  go_wp2
  refine bodyPost_ret (v := .agg #[.int .i64 (wrap64 (r1 + 1)), .int .i64 (wrap64 (r2 + 4)), .int .i64 (wrap64 (r3 + v))]) ?_ rfl ⟨rfl, ?_⟩
  · simp [results, Tryz.results63, go_sem, w_ar]
  · repeat first
      | exact Below.refl _ _
      | refine Below.setCell (p := ⟨_, _, _⟩) ?_ (by simp; try omega) _
      | refine Below.alloc ?_ (by simp; try omega) _
theorem w2 (r1 r2 r3 : Int) (nm : ByteArray) (v : Int) (body : List Nd) (p : Ps) (q1 : Option Addr) (d1 : Nat) (O : Nat -> Prop) (W : World) (hO : ∀ i, O i -> i < W.heap.size) (ht : NV W O (.slice q1 body.length d1) body) :
    Calls Tryz.prog 63 #[.agg #[.int .i64 r1, .int .i64 r2, .int .i64 r3], .agg #[.int .i64 2, .string nm, .int .u16 v, .slice q1 body.length d1, .int .i64 p.1, .int .i64 p.2]] W fun e w' => e = .returned (.agg #[.int .i64 (wrap64 (r1 + 1)), .int .i64 (wrap64 (r2 + 4)), .int .i64 (r3)]) /\ Below W.heap.size W w' := by
  obtain ⟨W1, hW1⟩ : ∃ W1, W1 = ((W.alloc (.cells #[.int .i64 r1, .int .i64 r2, .int .i64 r3] 136)).alloc (.cells #[.int .i64 2, .string nm, .int .u16 v, .slice q1 body.length d1, .int .i64 p.1, .int .i64 p.2] 60)).alloc (.cells #[.int .i64 0, .int .i64 0, .int .i64 0] 136) := ⟨_, rfl⟩
  have z1 : Below W.heap.size W W1 := by rw [hW1]; exact (((Below.refl _ W).alloc (Nat.le_refl _) _).alloc (by simp) _).alloc (by simp; omega) _
  have zs : W1.heap.size = W.heap.size + 3 := by rw [hW1]; simp
  have s1 : (W.alloc (.cells #[.int .i64 r1, .int .i64 r2, .int .i64 r3] 136)).heap.size = W.heap.size + 1 := by simp
  have s2 : ((W.alloc (.cells #[.int .i64 r1, .int .i64 r2, .int .i64 r3] 136)).alloc (.cells #[.int .i64 2, .string nm, .int .u16 v, .slice q1 body.length d1, .int .i64 p.1, .int .i64 p.2] 60)).heap.size = W.heap.size + 2 := by simp
  have v0 : W1.heap[W.heap.size]? = some (.cells #[.int .i64 r1, .int .i64 r2, .int .i64 r3] 136 (0, 0)) := by rw [hW1]; exact (Below.heap_alloc _ _ _ (by omega)).trans ((Below.heap_alloc _ _ _ (by omega)).trans (heap_alloc_new W _))
  have v1 : W1.heap[W.heap.size + 1]? = some (.cells #[.int .i64 2, .string nm, .int .u16 v, .slice q1 body.length d1, .int .i64 p.1, .int .i64 p.2] 60 (0, 0)) := by rw [hW1]; exact (Below.heap_alloc _ _ _ (by omega)).trans (heap_alloc2_new W _ _)
  have v2 : W1.heap[W.heap.size + 2]? = some (.cells #[.int .i64 0, .int .i64 0, .int .i64 0] 136 (0, 0)) := by
    have := heap_alloc_new ((W.alloc (.cells #[.int .i64 r1, .int .i64 r2, .int .i64 r3] 136)).alloc (.cells #[.int .i64 2, .string nm, .int .u16 v, .slice q1 body.length d1, .int .i64 p.1, .int .i64 p.2] 60)) (.cells #[.int .i64 0, .int .i64 0, .int .i64 0] 136)
    rw [s2, <- hW1] at this; exact this
  clear ht hO
  clear z1 zs s1 s2 v0 v1 v2
  clear hW1 W1
  go_enter Tryz.func63, Tryz.ntmps63
  go_wp2
  refine bodyPost_ret (v := .agg #[.int .i64 (wrap64 (r1 + 1)), .int .i64 (wrap64 (r2 + 4)), .int .i64 (r3)]) ?_ rfl ⟨rfl, ?_⟩
  · simp [results, Tryz.results63, go_sem, w_ar]
  · repeat first
      | exact Below.refl _ _
      | refine Below.setCell (p := ⟨_, _, _⟩) ?_ (by simp; try omega) _
      | refine Below.alloc ?_ (by simp; try omega) _
theorem wr (k : Int) (n1 : ¬ k = 1) (n2 : ¬ k = 2) (n3 : ¬ k = 3) (r1 r2 r3 : Int) (nm : ByteArray) (v : Int) (body : List Nd) (p : Ps) (q1 : Option Addr) (d1 : Nat) (O : Nat -> Prop) (W : World) (hO : ∀ i, O i -> i < W.heap.size) (ht : NV W O (.slice q1 body.length d1) body) :
    Calls Tryz.prog 63 #[.agg #[.int .i64 r1, .int .i64 r2, .int .i64 r3], .agg #[.int .i64 k, .string nm, .int .u16 v, .slice q1 body.length d1, .int .i64 p.1, .int .i64 p.2]] W fun e w' => e = .returned (.agg #[.int .i64 (wrap64 (r1 + 1)), .int .i64 (r2), .int .i64 (r3)]) /\ Below W.heap.size W w' := by
  obtain ⟨W1, hW1⟩ : ∃ W1, W1 = ((W.alloc (.cells #[.int .i64 r1, .int .i64 r2, .int .i64 r3] 136)).alloc (.cells #[.int .i64 k, .string nm, .int .u16 v, .slice q1 body.length d1, .int .i64 p.1, .int .i64 p.2] 60)).alloc (.cells #[.int .i64 0, .int .i64 0, .int .i64 0] 136) := ⟨_, rfl⟩
  have z1 : Below W.heap.size W W1 := by rw [hW1]; exact (((Below.refl _ W).alloc (Nat.le_refl _) _).alloc (by simp) _).alloc (by simp; omega) _
  have zs : W1.heap.size = W.heap.size + 3 := by rw [hW1]; simp
  have s1 : (W.alloc (.cells #[.int .i64 r1, .int .i64 r2, .int .i64 r3] 136)).heap.size = W.heap.size + 1 := by simp
  have s2 : ((W.alloc (.cells #[.int .i64 r1, .int .i64 r2, .int .i64 r3] 136)).alloc (.cells #[.int .i64 k, .string nm, .int .u16 v, .slice q1 body.length d1, .int .i64 p.1, .int .i64 p.2] 60)).heap.size = W.heap.size + 2 := by simp
  have v0 : W1.heap[W.heap.size]? = some (.cells #[.int .i64 r1, .int .i64 r2, .int .i64 r3] 136 (0, 0)) := by rw [hW1]; exact (Below.heap_alloc _ _ _ (by omega)).trans ((Below.heap_alloc _ _ _ (by omega)).trans (heap_alloc_new W _))
  have v1 : W1.heap[W.heap.size + 1]? = some (.cells #[.int .i64 k, .string nm, .int .u16 v, .slice q1 body.length d1, .int .i64 p.1, .int .i64 p.2] 60 (0, 0)) := by rw [hW1]; exact (Below.heap_alloc _ _ _ (by omega)).trans (heap_alloc2_new W _ _)
  have v2 : W1.heap[W.heap.size + 2]? = some (.cells #[.int .i64 0, .int .i64 0, .int .i64 0] 136 (0, 0)) := by
    have := heap_alloc_new ((W.alloc (.cells #[.int .i64 r1, .int .i64 r2, .int .i64 r3] 136)).alloc (.cells #[.int .i64 k, .string nm, .int .u16 v, .slice q1 body.length d1, .int .i64 p.1, .int .i64 p.2] 60)) (.cells #[.int .i64 0, .int .i64 0, .int .i64 0] 136)
    rw [s2, <- hW1] at this; exact this
  have b1 : (k == 1) = false := by rw [Bool.eq_false_iff]; intro c; exact n1 (by simpa using c)
  have b2 : (k == 2) = false := by rw [Bool.eq_false_iff]; intro c; exact n2 (by simpa using c)
  have b3 : (k == 3) = false := by rw [Bool.eq_false_iff]; intro c; exact n3 (by simpa using c)
  clear ht hO
  clear z1 zs s1 s2 v0 v1 v2
  clear hW1 W1
  go_enter Tryz.func63, Tryz.ntmps63
  go_wp2
  refine bodyPost_ret (v := .agg #[.int .i64 (wrap64 (r1 + 1)), .int .i64 (r2), .int .i64 (r3)]) ?_ rfl ⟨rfl, ?_⟩
  · simp [results, Tryz.results63, go_sem, w_ar]
  · repeat first
      | exact Below.refl _ _
      | refine Below.setCell (p := ⟨_, _, _⟩) ?_ (by simp; try omega) _
      | refine Below.alloc ?_ (by simp; try omega) _
theorem with_any (r : Rm) (hr : RI r) (d : Df) (bv : Value) (O : Nat -> Prop) (W : World) (hO : ∀ i, O i -> i < W.heap.size) (ht : NV W O bv d.body) :
    Calls Tryz.prog 63 #[.agg (rmc r).toArray, .agg (dfc d bv).toArray] W fun e w' => e = .returned (.agg (rmc (wt r d)).toArray) /\ Below W.heap.size W w' := by
  obtain ⟨r1, r2, r3⟩ := r
  obtain ⟨k, nm, v, body, p⟩ := d
  obtain ⟨h1, h2, h3⟩ := hr
  obtain ⟨q1, d1, rfl, _, _⟩ := ht.ex
  have e3 : wrap64 r3 = r3 := w_in _ h3
  have e2 : wrap64 r2 = r2 := w_in _ h2
  by_cases c1 : k = 1
  · subst c1
    have := w1 r1 r2 r3 nm v body p q1 d1 O W hO ht
    simp only [rmc, wt, db, dr, dfc, reduceIte, Int.reduceEq, or_self, Int.add_zero, e3]
    exact this
  by_cases c2 : k = 2
  · subst c2
    have := w2 r1 r2 r3 nm v body p q1 d1 O W hO ht
    simp only [rmc, wt, db, dr, dfc, reduceIte, Int.reduceEq, or_false, true_or, Int.add_zero, e3]
    exact this
  by_cases c3 : k = 3
  · subst c3
    have := w3 r1 r2 r3 nm v body p q1 d1 O W hO ht
    simp only [rmc, wt, db, dr, dfc, reduceIte, Int.reduceEq, or_true, Int.add_zero]
    exact this
  have := wr k c1 c2 c3 r1 r2 r3 nm v body p q1 d1 O W hO ht
  simp only [rmc, wt, db, dr, dfc, c1, c2, c3, or_self, if_false, Int.add_zero, e2, e3]
  exact this
theorem passes_any (r : Rm) (W : World) : Calls Tryz.prog 49 #[.agg (rmc r).toArray] W fun e w' => e = .returned (.int .i64 (ps r)) /\ Below W.heap.size W w' := by
  obtain ⟨r1, r2, r3⟩ := r
  unfold rmc ps
  by_cases c1 : 512 < r1
  · have b1 : r1 > 512 := c1
    simp only [c1, if_true]
    go_enter Tryz.func49, Tryz.ntmps49
    go_wp2
    go_ret
    exact ⟨rfl, (Below.refl _ _).alloc (Nat.le_refl _) _⟩
  · by_cases c2 : 16384 < r2
    · simp only [c1, c2, if_true, if_false]
      go_enter Tryz.func49, Tryz.ntmps49
      go_wp2
      go_ret
      exact ⟨rfl, (Below.refl _ _).alloc (Nat.le_refl _) _⟩
    · by_cases c3 : 16384 < r3
      · simp only [c1, c2, c3, if_true, if_false]
        go_enter Tryz.func49, Tryz.ntmps49
        go_wp2
        go_ret
        exact ⟨rfl, (Below.refl _ _).alloc (Nat.le_refl _) _⟩
      · simp only [c1, c2, c3, if_false]
        go_enter Tryz.func49, Tryz.ntmps49
        go_wp2
        go_ret
        exact ⟨rfl, (Below.refl _ _).alloc (Nat.le_refl _) _⟩
theorem between_any (d : Df) (bv : Value) (a b : Rm) (W : World) (O : Nat -> Prop) (ht : NV W O bv d.body) :
    Calls Tryz.prog 50 #[.agg (dfc d bv).toArray, .agg (rmc a).toArray, .agg (rmc b).toArray] W fun e w' => e = .returned (.agg (plc (bt d a b)).toArray) /\ Below W.heap.size W w' := by
  obtain ⟨q1, d1, rfl, _, _⟩ := ht.ex
  clear ht
  obtain ⟨a1, a2, a3⟩ := a
  obtain ⟨b1, b2, b3⟩ := b
  obtain ⟨k, nm, v, body, p⟩ := d
  unfold dfc rmc plc bt
  by_cases c : k = 3
  · subst c
    simp only [if_true]
    go_enter Tryz.func50, Tryz.ntmps50
    go_wp2
    refine bodyPost_ret (v := .agg #[.string nm, .int .u16 (a2 % 65536), .int .i64 (wrap64 (b2 - a2)), .int .u16 ((32768 + a3) % 65536)]) ?_ rfl ⟨rfl, ?_⟩
    · simp [results, Tryz.results50, go_sem, IntKind.wrap_u16, w_u16]
    · repeat first
        | exact Below.refl _ _
        | refine Below.setCell (p := ⟨_, _, _⟩) ?_ (by simp; try omega) _
        | refine Below.alloc ?_ (by simp; try omega) _
  · have e : (k == 3) = false := by simpa using c
    simp only [c, if_false]
    go_enter Tryz.func50, Tryz.ntmps50
    go_wp2
    refine bodyPost_ret (v := .agg #[.string nm, .int .u16 (a2 % 65536), .int .i64 (wrap64 (b2 - a2)), .int .u16 0]) ?_ rfl ⟨rfl, ?_⟩
    · simp [results, Tryz.results50, go_sem, IntKind.wrap_u16, w_u16]
    · repeat first
        | exact Below.refl _ _
        | refine Below.setCell (p := ⟨_, _, _⟩) ?_ (by simp; try omega) _
        | refine Below.alloc ?_ (by simp; try omega) _
end Go.Proofs.YtoemoiehjdmheaaGreat.Y
