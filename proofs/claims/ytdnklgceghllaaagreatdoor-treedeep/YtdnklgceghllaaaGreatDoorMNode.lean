import Derived.Test.YtdnklgceghllaaaGreatDoorMNodes
import Derived.Test.YtdnklgceghllaaaGreatDoorMDec
import Derived.Test.YtdnklgceghllaaaGreatDoorPTab
namespace Go.Proofs.YtdnklgceghllaaaGreatDoor.M
open Go.RowKit
open Go.Proofs
open Go.Proofs.YtdnklgceghllaaaGreatDoor.Y (Nd Df Ps Bk ndc NV NA N1 cells9 hid)
set_option linter.unusedVariables false
set_option linter.unusedSimpArgs false
set_option maxHeartbeats 4000000
set_option maxRecDepth 100000
theorem of_pn (op : Int) (w : World) : ∃ (a i o c : Int) (b : Bool) (e : Int), Calls Tryz.prog 118 #[.int .i64 op] w fun en w' => en = .returned (.tuple #[.agg #[.int .i64 a, .string (pn op), .int .i64 i, .int .i64 o, .int .i64 c, .bool b], .int .i64 e]) /\ Below w.heap.size w w' := by
 unfold pn
 by_cases h : op < 1 \/ 64 <= op
 ·rw [if_pos h]
  exact ⟨_, _, _, _, _, _, P.of_no op h w⟩
 ·rw [if_neg h]
  obtain ⟨x, rfl⟩ : ∃ x : Nat, op = (x : Int) := ⟨op.toNat, by omega⟩
  exact ⟨_, _, _, _, _, _, P.of_at x (by omega) (by omega) w⟩
theorem pn_size (op : Int) : (pn op).size <= 100 := by
 unfold pn
 split
 ·decide
 ·rename_i h
  have key : ∀ x : Nat, x < 64 -> (P.nm x).size <= 100 := by decide
  exact key _ (by omega)
theorem box_node {W0 : World} {g : Nat} {W : World} {t : List UInt8} (h : PS W0 g W t) (n : Nd) (tv ev : Value) : ∃ W1, W.alloc (.cells #[.int .i64 n.k, .int .i64 n.op, .int .u16 n.v, .string n.nm, tv, ev, .bool n.has, .int .i64 n.p.1, .int .i64 n.p.2] 43) = W1 /\ PS W0 g W1 t /\ KP g W W1 /\ W1.heap[W.heap.size]? = some (.cells (ndc n tv ev).toArray 43 (0, 0)) /\ W.heap.size ≠ g := by
 refine ⟨_, rfl, h.next ((Below.refl _ _).alloc (Nat.le_refl _) _), KP.of ((Below.refl _ _).alloc (Nat.le_refl _) _), heap_alloc_new W _, ?_⟩
 have := h.lt
 omega
theorem box_cells {g : Nat} {W1 : World} {b : Nat} {n : Nd} {tv ev : Value} (v1 : W1.heap[b]? = some (.cells (ndc n tv ev).toArray 43 (0, 0))) (hb : b ≠ g) {w : World} (k : KP g W1 w) : w.cell? ⟨b, 0, none⟩ = some (.int .i64 n.k) /\ w.cell? ⟨b, 1, none⟩ = some (.int .i64 n.op) /\ w.cell? ⟨b, 2, none⟩ = some (.int .u16 n.v) /\ w.cell? ⟨b, 3, none⟩ = some (.string n.nm) /\ w.cell? ⟨b, 4, none⟩ = some tv /\ w.cell? ⟨b, 5, none⟩ = some ev /\ w.cell? ⟨b, 6, none⟩ = some (.bool n.has) /\ w.cell? ⟨b, 7, none⟩ = some (.int .i64 n.p.1) /\ w.cell? ⟨b, 8, none⟩ = some (.int .i64 n.p.2) := by
 have v2 := k b _ v1 hb (by intro cs e; simp only [Obj.cells.injEq] at e; exact absurd e.2.1 (by decide))
 have := cells9 (W := w) (b := b) (o := 0) (n := n) (tv := tv) (ev := ev) fun j x hx => by rw [Nat.zero_add]; exact S.cell_of w _ j _ 43 x v2 hx
 simpa only [Nat.zero_add] using this
theorem pn_1 (th el : List Nd) (op v : Int) (nm : ByteArray) (has : Bool) (p : Ps) (q1 q2 : Option Addr) (d1 d2 : Nat) (W0 : World) (g : Nat) (W : World) (t : List UInt8) (O : Nat -> Prop) (hg : W0.heap.size = g) (hT : P10 W0) (h : PS W0 g W t) (hO : ∀ i, O i -> i < g) (ht : NV W0 O (.slice q1 th.length d1) th) (he : NV W0 O (.slice q2 el.length d2) el) :
  Calls Tryz.prog 84 #[.pointer (some ⟨g, 0, none⟩), .agg #[.int .i64 1, .int .i64 op, .int .u16 v, .string nm, .slice q1 th.length d1, .slice q2 el.length d2, .bool has, .int .i64 p.1, .int .i64 p.2]] W (PO W0 g (puts t ([pn op])) W) := by
 obtain ⟨W1, hW1, hP1, hK1, v1, hbg⟩ := box_node h ⟨1, op, v, nm, th, el, has, p⟩ (.slice q1 th.length d1) (.slice q2 el.length d2)
 obtain ⟨x0, x1, x2, x3, x4, x5, x6, x7, x8⟩ := box_cells v1 hbg (KP.refl g W1)
 simp only at x0 x1 x2 x3 x4 x5 x6 x7 x8 hW1
 have HX := hid (fun (w : World) (k : KP g W1 w) => box_cells v1 hbg k)
 obtain ⟨ra, ri, ro, rc, rb, re, hc⟩ := of_pn op W1
 have hs := pn_size op
 have H1 := hid (And.intro hP1 (And.intro hK1 hs))
 generalize pn op = s at *
 clear h hg hT hO ht he v1 hP1 hK1
 go_enter Tryz.func84, Tryz.ntmps84
 go_wp2_with fail
 refine hc.mono ?_
 rintro e w2 ⟨rfl, hb2⟩
 have hP2 := H1.out.1.next hb2
 have hK2 := H1.out.2.1.trans (KP.of hb2)
 obtain ⟨W3, hW3⟩ : ∃ W3, w2.alloc (.cells #[.int .i64 ra, .string s, .int .i64 ri, .int .i64 ro, .int .i64 rc, .bool rb] 129) = W3 := ⟨_, rfl⟩
 have hb3 : Below w2.heap.size w2 W3 := by rw [<- hW3]; exact (Below.refl _ _).alloc (Nat.le_refl _) _
 have v3 : W3.heap[w2.heap.size]? = some (.cells [.int .i64 ra, .string s, .int .i64 ri, .int .i64 ro, .int .i64 rc, .bool rb].toArray 129 (0, 0)) := by rw [<- hW3]; exact heap_alloc_new w2 _
 have y1 := S.cell_of W3 _ 1 _ 129 _ v3 rfl
 have hc3 := put_one (hP2.next hb3) s H1.out.2.2
 have H2 := hid (hK2.trans (KP.of hb3))
 clear hc hP2 hK2 hb2 hb3 v3 x0 x1 x2 x3 x4 x5 x6 x7 x8
 go_wp2_with fail
 try rw [hW3]
 refine hc3.mono ?_
 rintro e w4 ⟨rfl, h4, k4⟩
 have H9 := hid (And.intro h4 (H2.out.trans k4))
 clear hc3 h4 k4
 go_wp2
 refine bodyPost_ret (results_none rfl _ _ _) rfl ?_
 exact ⟨rfl, H9.out⟩
theorem pn_2 (th el : List Nd) (op v : Int) (nm : ByteArray) (has : Bool) (p : Ps) (q1 q2 : Option Addr) (d1 d2 : Nat) (W0 : World) (g : Nat) (W : World) (t : List UInt8) (O : Nat -> Prop) (hg : W0.heap.size = g) (hT : P10 W0) (h : PS W0 g W t) (hO : ∀ i, O i -> i < g) (ht : NV W0 O (.slice q1 th.length d1) th) (he : NV W0 O (.slice q2 el.length d2) el) (hs : (dcm v).size <= 100) :
  Calls Tryz.prog 84 #[.pointer (some ⟨g, 0, none⟩), .agg #[.int .i64 2, .int .i64 op, .int .u16 v, .string nm, .slice q1 th.length d1, .slice q2 el.length d2, .bool has, .int .i64 p.1, .int .i64 p.2]] W (PO W0 g (puts t ([dcm v])) W) := by
 obtain ⟨W1, hW1, hP1, hK1, v1, hbg⟩ := box_node h ⟨2, op, v, nm, th, el, has, p⟩ (.slice q1 th.length d1) (.slice q2 el.length d2)
 obtain ⟨x0, x1, x2, x3, x4, x5, x6, x7, x8⟩ := box_cells v1 hbg (KP.refl g W1)
 simp only at x0 x1 x2 x3 x4 x5 x6 x7 x8 hW1
 have HX := hid (fun (w : World) (k : KP g W1 w) => box_cells v1 hbg k)
 have hc := decimal_any v W1 (hT.below (by rw [hg]; exact hP1.bel))
 have H1 := hid (And.intro hP1 (And.intro hK1 hs))
 generalize dcm v = s at *
 clear h hg hT hO ht he v1 hP1 hK1
 go_enter Tryz.func84, Tryz.ntmps84
 go_wp2_with fail
 refine hc.mono ?_
 rintro e w2 ⟨rfl, hb2⟩
 have hc3 := put_one (H1.out.1.next hb2) s H1.out.2.2
 have H2 := hid (H1.out.2.1.trans (KP.of hb2))
 clear hc hb2 x0 x1 x2 x3 x4 x5 x6 x7 x8
 go_wp2_with fail
 refine hc3.mono ?_
 rintro e w4 ⟨rfl, h4, k4⟩
 have H9 := hid (And.intro h4 (H2.out.trans k4))
 clear hc3 h4 k4
 go_wp2
 refine bodyPost_ret (results_none rfl _ _ _) rfl ?_
 exact ⟨rfl, H9.out⟩
theorem pn_3 (th el : List Nd) (op v : Int) (nm : ByteArray) (has : Bool) (p : Ps) (q1 q2 : Option Addr) (d1 d2 : Nat) (W0 : World) (g : Nat) (W : World) (t : List UInt8) (O : Nat -> Prop) (hg : W0.heap.size = g) (hT : P10 W0) (h : PS W0 g W t) (hO : ∀ i, O i -> i < g) (ht : NV W0 O (.slice q1 th.length d1) th) (he : NV W0 O (.slice q2 el.length d2) el) (hs : nm.size <= 100) :
  Calls Tryz.prog 84 #[.pointer (some ⟨g, 0, none⟩), .agg #[.int .i64 3, .int .i64 op, .int .u16 v, .string nm, .slice q1 th.length d1, .slice q2 el.length d2, .bool has, .int .i64 p.1, .int .i64 p.2]] W (PO W0 g (puts t ([nm])) W) := by
 obtain ⟨W1, hW1, hP1, hK1, v1, hbg⟩ := box_node h ⟨3, op, v, nm, th, el, has, p⟩ (.slice q1 th.length d1) (.slice q2 el.length d2)
 obtain ⟨x0, x1, x2, x3, x4, x5, x6, x7, x8⟩ := box_cells v1 hbg (KP.refl g W1)
 simp only at x0 x1 x2 x3 x4 x5 x6 x7 x8 hW1
 have HX := hid (fun (w : World) (k : KP g W1 w) => box_cells v1 hbg k)
 have hc3 := put_one hP1 nm hs
 have H2 := hid hK1
 clear h hg hT hO ht he v1 hP1 hK1
 go_enter Tryz.func84, Tryz.ntmps84
 go_wp2_with fail
 try rw [hW1]
 refine hc3.mono ?_
 rintro e w4 ⟨rfl, h4, k4⟩
 have H9 := hid (And.intro h4 (H2.out.trans k4))
 clear hc3 h4 k4
 go_wp2
 refine bodyPost_ret (results_none rfl _ _ _) rfl ?_
 exact ⟨rfl, H9.out⟩
theorem pn_9 (th el : List Nd) (op v : Int) (nm : ByteArray) (has : Bool) (p : Ps) (q1 q2 : Option Addr) (d1 d2 : Nat) (W0 : World) (g : Nat) (W : World) (t : List UInt8) (O : Nat -> Prop) (hg : W0.heap.size = g) (hT : P10 W0) (h : PS W0 g W t) (hO : ∀ i, O i -> i < g) (ht : NV W0 O (.slice q1 th.length d1) th) (he : NV W0 O (.slice q2 el.length d2) el) :
  Calls Tryz.prog 84 #[.pointer (some ⟨g, 0, none⟩), .agg #[.int .i64 9, .int .i64 op, .int .u16 v, .string nm, .slice q1 th.length d1, .slice q2 el.length d2, .bool has, .int .i64 p.1, .int .i64 p.2]] W (PO W0 g (puts t ([wExit])) W) := by
 obtain ⟨W1, hW1, hP1, hK1, v1, hbg⟩ := box_node h ⟨9, op, v, nm, th, el, has, p⟩ (.slice q1 th.length d1) (.slice q2 el.length d2)
 obtain ⟨x0, x1, x2, x3, x4, x5, x6, x7, x8⟩ := box_cells v1 hbg (KP.refl g W1)
 simp only at x0 x1 x2 x3 x4 x5 x6 x7 x8 hW1
 have HX := hid (fun (w : World) (k : KP g W1 w) => box_cells v1 hbg k)
 have hc3 := put_one hP1 ⟨#[101, 120, 105, 116]⟩ (by decide)
 have H2 := hid hK1
 clear h hg hT hO ht he v1 hP1 hK1
 go_enter Tryz.func84, Tryz.ntmps84
 go_wp2_with fail
 try rw [hW1]
 refine hc3.mono ?_
 rintro e w4 ⟨rfl, h4, k4⟩
 have H9 := hid (And.intro h4 (H2.out.trans k4))
 clear hc3 h4 k4
 go_wp2
 refine bodyPost_ret (results_none rfl _ _ _) rfl ?_
 exact ⟨rfl, H9.out⟩
theorem pn_5 (th el : List Nd) (op v : Int) (nm : ByteArray) (has : Bool) (p : Ps) (q1 q2 : Option Addr) (d1 d2 : Nat) (W0 : World) (g : Nat) (W : World) (t : List UInt8) (O : Nat -> Prop) (hg : W0.heap.size = g) (hT : P10 W0) (h : PS W0 g W t) (hO : ∀ i, O i -> i < g) (ht : NV W0 O (.slice q1 th.length d1) th) (he : NV W0 O (.slice q2 el.length d2) el) (h1 : ∀ m ∈ th, SNp m) (hw1 : ∀ w ∈ nws th, w.size <= 100) :
  Calls Tryz.prog 84 #[.pointer (some ⟨g, 0, none⟩), .agg #[.int .i64 5, .int .i64 op, .int .u16 v, .string nm, .slice q1 th.length d1, .slice q2 el.length d2, .bool has, .int .i64 p.1, .int .i64 p.2]] W (PO W0 g (puts t ([wBegin] ++ nws th ++ [wUntil])) W) := by
 obtain ⟨W1, hW1, hP1, hK1, v1, hbg⟩ := box_node h ⟨5, op, v, nm, th, el, has, p⟩ (.slice q1 th.length d1) (.slice q2 el.length d2)
 obtain ⟨x0, x1, x2, x3, x4, x5, x6, x7, x8⟩ := box_cells v1 hbg (KP.refl g W1)
 simp only at x0 x1 x2 x3 x4 x5 x6 x7 x8 hW1
 have HX := hid (fun (w : World) (k : KP g W1 w) => box_cells v1 hbg k)
 have hc3 := around_of th h1 W0 g W1 t _ O hg hT hP1 hO ht hw1 ⟨#[98, 101, 103, 105, 110]⟩ ⟨#[117, 110, 116, 105, 108]⟩ (by decide) (by decide)
 have H2 := hid hK1
 clear h1 hw1
 clear h hg hT hO ht he v1 hP1 hK1
 go_enter Tryz.func84, Tryz.ntmps84
 go_wp2_with fail
 try rw [hW1]
 refine hc3.mono ?_
 rintro e w4 ⟨rfl, h4, k4⟩
 have H9 := hid (And.intro h4 (H2.out.trans k4))
 clear hc3 h4 k4
 go_wp2
 refine bodyPost_ret (results_none rfl _ _ _) rfl ?_
 exact ⟨rfl, H9.out⟩
theorem pn_7 (th el : List Nd) (op v : Int) (nm : ByteArray) (has : Bool) (p : Ps) (q1 q2 : Option Addr) (d1 d2 : Nat) (W0 : World) (g : Nat) (W : World) (t : List UInt8) (O : Nat -> Prop) (hg : W0.heap.size = g) (hT : P10 W0) (h : PS W0 g W t) (hO : ∀ i, O i -> i < g) (ht : NV W0 O (.slice q1 th.length d1) th) (he : NV W0 O (.slice q2 el.length d2) el) (h1 : ∀ m ∈ th, SNp m) (hw1 : ∀ w ∈ nws th, w.size <= 100) :
  Calls Tryz.prog 84 #[.pointer (some ⟨g, 0, none⟩), .agg #[.int .i64 7, .int .i64 op, .int .u16 v, .string nm, .slice q1 th.length d1, .slice q2 el.length d2, .bool has, .int .i64 p.1, .int .i64 p.2]] W (PO W0 g (puts t ([wBegin] ++ nws th ++ [wAgain])) W) := by
 obtain ⟨W1, hW1, hP1, hK1, v1, hbg⟩ := box_node h ⟨7, op, v, nm, th, el, has, p⟩ (.slice q1 th.length d1) (.slice q2 el.length d2)
 obtain ⟨x0, x1, x2, x3, x4, x5, x6, x7, x8⟩ := box_cells v1 hbg (KP.refl g W1)
 simp only at x0 x1 x2 x3 x4 x5 x6 x7 x8 hW1
 have HX := hid (fun (w : World) (k : KP g W1 w) => box_cells v1 hbg k)
 have hc3 := around_of th h1 W0 g W1 t _ O hg hT hP1 hO ht hw1 ⟨#[98, 101, 103, 105, 110]⟩ ⟨#[97, 103, 97, 105, 110]⟩ (by decide) (by decide)
 have H2 := hid hK1
 clear h1 hw1
 clear h hg hT hO ht he v1 hP1 hK1
 go_enter Tryz.func84, Tryz.ntmps84
 go_wp2_with fail
 try rw [hW1]
 refine hc3.mono ?_
 rintro e w4 ⟨rfl, h4, k4⟩
 have H9 := hid (And.intro h4 (H2.out.trans k4))
 clear hc3 h4 k4
 go_wp2
 refine bodyPost_ret (results_none rfl _ _ _) rfl ?_
 exact ⟨rfl, H9.out⟩
theorem pn_8 (th el : List Nd) (op v : Int) (nm : ByteArray) (has : Bool) (p : Ps) (q1 q2 : Option Addr) (d1 d2 : Nat) (W0 : World) (g : Nat) (W : World) (t : List UInt8) (O : Nat -> Prop) (hg : W0.heap.size = g) (hT : P10 W0) (h : PS W0 g W t) (hO : ∀ i, O i -> i < g) (ht : NV W0 O (.slice q1 th.length d1) th) (he : NV W0 O (.slice q2 el.length d2) el) (h1 : ∀ m ∈ th, SNp m) (hw1 : ∀ w ∈ nws th, w.size <= 100) :
  Calls Tryz.prog 84 #[.pointer (some ⟨g, 0, none⟩), .agg #[.int .i64 8, .int .i64 op, .int .u16 v, .string nm, .slice q1 th.length d1, .slice q2 el.length d2, .bool has, .int .i64 p.1, .int .i64 p.2]] W (PO W0 g (puts t ([wDo] ++ nws th ++ [wLoop])) W) := by
 obtain ⟨W1, hW1, hP1, hK1, v1, hbg⟩ := box_node h ⟨8, op, v, nm, th, el, has, p⟩ (.slice q1 th.length d1) (.slice q2 el.length d2)
 obtain ⟨x0, x1, x2, x3, x4, x5, x6, x7, x8⟩ := box_cells v1 hbg (KP.refl g W1)
 simp only at x0 x1 x2 x3 x4 x5 x6 x7 x8 hW1
 have HX := hid (fun (w : World) (k : KP g W1 w) => box_cells v1 hbg k)
 have hc3 := around_of th h1 W0 g W1 t _ O hg hT hP1 hO ht hw1 ⟨#[100, 111]⟩ ⟨#[108, 111, 111, 112]⟩ (by decide) (by decide)
 have H2 := hid hK1
 clear h1 hw1
 clear h hg hT hO ht he v1 hP1 hK1
 go_enter Tryz.func84, Tryz.ntmps84
 go_wp2_with fail
 try rw [hW1]
 refine hc3.mono ?_
 rintro e w4 ⟨rfl, h4, k4⟩
 have H9 := hid (And.intro h4 (H2.out.trans k4))
 clear hc3 h4 k4
 go_wp2
 refine bodyPost_ret (results_none rfl _ _ _) rfl ?_
 exact ⟨rfl, H9.out⟩
theorem br_f (th el : List Nd) (op v : Int) (nm : ByteArray) (has : Bool) (p : Ps) (q1 q2 : Option Addr) (d1 d2 : Nat) (W0 : World) (g : Nat) (W : World) (t : List UInt8) (O : Nat -> Prop) (hg : W0.heap.size = g) (hT : P10 W0) (h : PS W0 g W t) (hO : ∀ i, O i -> i < g) (ht : NV W0 O (.slice q1 th.length d1) th) (he : NV W0 O (.slice q2 el.length d2) el) (h1 : ∀ m ∈ th, SNp m) (hw1 : ∀ w ∈ nws th, w.size <= 100) :
  Calls Tryz.prog 119 #[.pointer (some ⟨g, 0, none⟩), .agg #[.int .i64 4, .int .i64 op, .int .u16 v, .string nm, .slice q1 th.length d1, .slice q2 el.length d2, .bool false, .int .i64 p.1, .int .i64 p.2]] W (PO W0 g (puts t ([wIf] ++ nws th ++ [wThen])) W) := by
 obtain ⟨W1, hW1, hP1, hK1, v1, hbg⟩ := box_node h ⟨4, op, v, nm, th, el, false, p⟩ (.slice q1 th.length d1) (.slice q2 el.length d2)
 obtain ⟨x0, x1, x2, x3, x4, x5, x6, x7, x8⟩ := box_cells v1 hbg (KP.refl g W1)
 simp only at x0 x1 x2 x3 x4 x5 x6 x7 x8 hW1
 have HX := hid (fun (w : World) (k : KP g W1 w) => box_cells v1 hbg k)
 have hc3 := around_of th h1 W0 g W1 t _ O hg hT hP1 hO ht hw1 ⟨#[105, 102]⟩ ⟨#[116, 104, 101, 110]⟩ (by decide) (by decide)
 have H2 := hid hK1
 clear h1 hw1
 clear h hg hT hO ht he v1 hP1 hK1
 go_enter Tryz.func119, Tryz.ntmps119
 go_wp2_with fail
 try rw [hW1]
 refine hc3.mono ?_
 rintro e w4 ⟨rfl, h4, k4⟩
 have H9 := hid (And.intro h4 (H2.out.trans k4))
 clear hc3 h4 k4
 go_wp2
 refine bodyPost_ret (results_none rfl _ _ _) rfl ?_
 exact ⟨rfl, H9.out⟩
theorem pn_6 (th el : List Nd) (op v : Int) (nm : ByteArray) (has : Bool) (p : Ps) (q1 q2 : Option Addr) (d1 d2 : Nat) (W0 : World) (g : Nat) (W : World) (t : List UInt8) (O : Nat -> Prop) (hg : W0.heap.size = g) (hT : P10 W0) (h : PS W0 g W t) (hO : ∀ i, O i -> i < g) (ht : NV W0 O (.slice q1 th.length d1) th) (he : NV W0 O (.slice q2 el.length d2) el) (h1 : ∀ m ∈ th, SNp m) (h2 : ∀ m ∈ el, SNp m) (hw1 : ∀ w ∈ nws th, w.size <= 100) (hw2 : ∀ w ∈ nws el, w.size <= 100) :
  Calls Tryz.prog 84 #[.pointer (some ⟨g, 0, none⟩), .agg #[.int .i64 6, .int .i64 op, .int .u16 v, .string nm, .slice q1 th.length d1, .slice q2 el.length d2, .bool has, .int .i64 p.1, .int .i64 p.2]] W (PO W0 g (puts t ([wBegin] ++ nws th ++ [wWhile] ++ nws el ++ [wRepeat])) W) := by
 obtain ⟨W1, hW1, hP1, hK1, v1, hbg⟩ := box_node h ⟨6, op, v, nm, th, el, has, p⟩ (.slice q1 th.length d1) (.slice q2 el.length d2)
 obtain ⟨x0, x1, x2, x3, x4, x5, x6, x7, x8⟩ := box_cells v1 hbg (KP.refl g W1)
 simp only at x0 x1 x2 x3 x4 x5 x6 x7 x8 hW1
 have HX := hid (fun (w : World) (k : KP g W1 w) => box_cells v1 hbg k)
 have hc3 := around_of th h1 W0 g W1 t _ O hg hT hP1 hO ht hw1 ⟨#[98, 101, 103, 105, 110]⟩ ⟨#[119, 104, 105, 108, 101]⟩ (by decide) (by decide)
 have HE := hid (fun (w : World) (t' : List UInt8) (h' : PS W0 g w t') => nodes_of el h2 W0 g w t' _ O hg hT h' hO he hw2)
 have H2 := hid hK1
 clear h1 hw1 h2 hw2
 clear h hg hT hO ht he v1 hP1 hK1
 go_enter Tryz.func84, Tryz.ntmps84
 go_wp2_with fail
 try rw [hW1]
 refine hc3.mono ?_
 rintro e w4 ⟨rfl, h4, k4⟩
 have hc4 := HE.out w4 _ h4
 obtain ⟨y0, y1, y2, y3, y4, y5, y6, y7, y8⟩ := HX.out w4 k4
 try simp only at y0 y1 y2 y3 y4 y5 y6 y7 y8
 have H3 := hid (H2.out.trans k4)
 clear hc3 h4 k4 x0 x1 x2 x3 x4 x5 x6 x7 x8
 go_wp2_with fail
 refine hc4.mono ?_
 rintro e w5 ⟨rfl, h5, k5⟩
 have hc5 := put_one h5 ⟨#[114, 101, 112, 101, 97, 116]⟩ (by decide)
 have H4 := hid (H3.out.trans k5)
 clear hc4 h5 k5 y0 y1 y2 y3 y4 y5 y6 y7 y8
 go_wp2_with fail
 refine hc5.mono ?_
 rintro e w6 ⟨rfl, h6, k6⟩
 rw [<- puts_app, <- puts_app, <- List.append_assoc] at h6
 have H9 := hid (And.intro h6 (H4.out.trans k6))
 clear hc5 h6 k6
 go_wp2
 refine bodyPost_ret (results_none rfl _ _ _) rfl ?_
 exact ⟨rfl, H9.out⟩
theorem br_t (th el : List Nd) (op v : Int) (nm : ByteArray) (has : Bool) (p : Ps) (q1 q2 : Option Addr) (d1 d2 : Nat) (W0 : World) (g : Nat) (W : World) (t : List UInt8) (O : Nat -> Prop) (hg : W0.heap.size = g) (hT : P10 W0) (h : PS W0 g W t) (hO : ∀ i, O i -> i < g) (ht : NV W0 O (.slice q1 th.length d1) th) (he : NV W0 O (.slice q2 el.length d2) el) (h1 : ∀ m ∈ th, SNp m) (h2 : ∀ m ∈ el, SNp m) (hw1 : ∀ w ∈ nws th, w.size <= 100) (hw2 : ∀ w ∈ nws el, w.size <= 100) :
  Calls Tryz.prog 119 #[.pointer (some ⟨g, 0, none⟩), .agg #[.int .i64 4, .int .i64 op, .int .u16 v, .string nm, .slice q1 th.length d1, .slice q2 el.length d2, .bool true, .int .i64 p.1, .int .i64 p.2]] W (PO W0 g (puts t ([wIf] ++ nws th ++ [wElse] ++ nws el ++ [wThen])) W) := by
 obtain ⟨W1, hW1, hP1, hK1, v1, hbg⟩ := box_node h ⟨4, op, v, nm, th, el, true, p⟩ (.slice q1 th.length d1) (.slice q2 el.length d2)
 obtain ⟨x0, x1, x2, x3, x4, x5, x6, x7, x8⟩ := box_cells v1 hbg (KP.refl g W1)
 simp only at x0 x1 x2 x3 x4 x5 x6 x7 x8 hW1
 have HX := hid (fun (w : World) (k : KP g W1 w) => box_cells v1 hbg k)
 have hc3 := around_of th h1 W0 g W1 t _ O hg hT hP1 hO ht hw1 ⟨#[105, 102]⟩ ⟨#[101, 108, 115, 101]⟩ (by decide) (by decide)
 have HE := hid (fun (w : World) (t' : List UInt8) (h' : PS W0 g w t') => nodes_of el h2 W0 g w t' _ O hg hT h' hO he hw2)
 have H2 := hid hK1
 clear h1 hw1 h2 hw2
 clear h hg hT hO ht he v1 hP1 hK1
 go_enter Tryz.func119, Tryz.ntmps119
 go_wp2_with fail
 try rw [hW1]
 refine hc3.mono ?_
 rintro e w4 ⟨rfl, h4, k4⟩
 have hc4 := HE.out w4 _ h4
 obtain ⟨y0, y1, y2, y3, y4, y5, y6, y7, y8⟩ := HX.out w4 k4
 try simp only at y0 y1 y2 y3 y4 y5 y6 y7 y8
 have H3 := hid (H2.out.trans k4)
 clear hc3 h4 k4 x0 x1 x2 x3 x4 x5 x6 x7 x8
 go_wp2_with fail
 refine hc4.mono ?_
 rintro e w5 ⟨rfl, h5, k5⟩
 have hc5 := put_one h5 ⟨#[116, 104, 101, 110]⟩ (by decide)
 have H4 := hid (H3.out.trans k5)
 clear hc4 h5 k5 y0 y1 y2 y3 y4 y5 y6 y7 y8
 go_wp2_with fail
 refine hc5.mono ?_
 rintro e w6 ⟨rfl, h6, k6⟩
 rw [<- puts_app, <- puts_app, <- List.append_assoc] at h6
 have H9 := hid (And.intro h6 (H4.out.trans k6))
 clear hc5 h6 k6
 go_wp2
 refine bodyPost_ret (results_none rfl _ _ _) rfl ?_
 exact ⟨rfl, H9.out⟩
theorem pn_4 (th el : List Nd) (op v : Int) (nm : ByteArray) (has : Bool) (p : Ps) (q1 q2 : Option Addr) (d1 d2 : Nat) (W0 : World) (g : Nat) (W : World) (t : List UInt8) (O : Nat -> Prop) (hg : W0.heap.size = g) (hT : P10 W0) (h : PS W0 g W t) (hO : ∀ i, O i -> i < g) (ht : NV W0 O (.slice q1 th.length d1) th) (he : NV W0 O (.slice q2 el.length d2) el) (ws : List ByteArray) (hbr : ∀ (w : World) (h' : PS W0 g w t), Calls Tryz.prog 119 #[.pointer (some ⟨g, 0, none⟩), .agg #[.int .i64 4, .int .i64 op, .int .u16 v, .string nm, .slice q1 th.length d1, .slice q2 el.length d2, .bool has, .int .i64 p.1, .int .i64 p.2]] w (PO W0 g (puts t ws) w)) :
  Calls Tryz.prog 84 #[.pointer (some ⟨g, 0, none⟩), .agg #[.int .i64 4, .int .i64 op, .int .u16 v, .string nm, .slice q1 th.length d1, .slice q2 el.length d2, .bool has, .int .i64 p.1, .int .i64 p.2]] W (PO W0 g (puts t (ws)) W) := by
 obtain ⟨W1, hW1, hP1, hK1, v1, hbg⟩ := box_node h ⟨4, op, v, nm, th, el, has, p⟩ (.slice q1 th.length d1) (.slice q2 el.length d2)
 obtain ⟨x0, x1, x2, x3, x4, x5, x6, x7, x8⟩ := box_cells v1 hbg (KP.refl g W1)
 simp only at x0 x1 x2 x3 x4 x5 x6 x7 x8 hW1
 have HX := hid (fun (w : World) (k : KP g W1 w) => box_cells v1 hbg k)
 have hc3 := hbr W1 hP1
 have H2 := hid hK1
 clear hbr
 clear h hg hT hO ht he v1 hP1 hK1
 go_enter Tryz.func84, Tryz.ntmps84
 go_wp2_with fail
 try rw [hW1]
 refine hc3.mono ?_
 rintro e w4 ⟨rfl, h4, k4⟩
 have H9 := hid (And.intro h4 (H2.out.trans k4))
 clear hc3 h4 k4
 go_wp2
 refine bodyPost_ret (results_none rfl _ _ _) rfl ?_
 exact ⟨rfl, H9.out⟩
theorem pn_0 (th el : List Nd) (op v : Int) (nm : ByteArray) (has : Bool) (p : Ps) (q1 q2 : Option Addr) (d1 d2 : Nat) (W0 : World) (g : Nat) (W : World) (t : List UInt8) (O : Nat -> Prop) (hg : W0.heap.size = g) (hT : P10 W0) (h : PS W0 g W t) (hO : ∀ i, O i -> i < g) (ht : NV W0 O (.slice q1 th.length d1) th) (he : NV W0 O (.slice q2 el.length d2) el) (k : Int) (e1 : ¬ k = 1) (e2 : ¬ k = 2) (e3 : ¬ k = 3) (e4 : ¬ k = 4) (e5 : ¬ k = 5) (e6 : ¬ k = 6) (e7 : ¬ k = 7) (e8 : ¬ k = 8) (e9 : ¬ k = 9) :
  Calls Tryz.prog 84 #[.pointer (some ⟨g, 0, none⟩), .agg #[.int .i64 k, .int .i64 op, .int .u16 v, .string nm, .slice q1 th.length d1, .slice q2 el.length d2, .bool has, .int .i64 p.1, .int .i64 p.2]] W (PO W0 g (puts t ([])) W) := by
 obtain ⟨W1, hW1, hP1, hK1, v1, hbg⟩ := box_node h ⟨k, op, v, nm, th, el, has, p⟩ (.slice q1 th.length d1) (.slice q2 el.length d2)
 obtain ⟨x0, x1, x2, x3, x4, x5, x6, x7, x8⟩ := box_cells v1 hbg (KP.refl g W1)
 simp only at x0 x1 x2 x3 x4 x5 x6 x7 x8 hW1
 have HX := hid (fun (w : World) (k : KP g W1 w) => box_cells v1 hbg k)
 have H9 := hid (And.intro hP1 hK1)
 have b1 : (k == 1) = false := by simpa using e1
 have b2 : (k == 2) = false := by simpa using e2
 have b3 : (k == 3) = false := by simpa using e3
 have b4 : (k == 4) = false := by simpa using e4
 have b5 : (k == 5) = false := by simpa using e5
 have b6 : (k == 6) = false := by simpa using e6
 have b7 : (k == 7) = false := by simpa using e7
 have b8 : (k == 8) = false := by simpa using e8
 have b9 : (k == 9) = false := by simpa using e9
 clear h hg hT hO ht he v1 hP1 hK1
 go_enter Tryz.func84, Tryz.ntmps84
 go_wp2
 refine bodyPost_ret (results_none rfl _ _ _) rfl ?_
 try rw [hW1]
 exact ⟨rfl, H9.out⟩
theorem node_any (n : Nd) : SNp n := by
 refine Y.Nd.ind (P := SNp) ?_ n
 intro n h1 h2 W0 g W t tv ev O hg hT h hO ht he hw
 obtain ⟨q1, d1, rfl, _, _⟩ := ht.ex
 obtain ⟨q2, d2, rfl, _, _⟩ := he.ex
 obtain ⟨k, op, v, nm, th, el, has, p⟩ := n
 rw [nw_is] at hw ⊢
 unfold nwf at hw ⊢
 simp only at hw h1 h2 ht he ⊢
 by_cases e1 : k = 1
 ·subst e1
  exact pn_1 th el op v nm has p q1 q2 d1 d2 W0 g W t O hg hT h hO ht he
 by_cases e2 : k = 2
 ·subst e2
  exact pn_2 th el op v nm has p q1 q2 d1 d2 W0 g W t O hg hT h hO ht he (hw _ (by simp))
 by_cases e3 : k = 3
 ·subst e3
  exact pn_3 th el op v nm has p q1 q2 d1 d2 W0 g W t O hg hT h hO ht he (hw _ (by simp))
 by_cases e9 : k = 9
 ·subst e9
  exact pn_9 th el op v nm has p q1 q2 d1 d2 W0 g W t O hg hT h hO ht he
 by_cases e4 : k = 4
 ·subst e4
  cases has with
  | false => exact pn_4 th el op v nm false p q1 q2 d1 d2 W0 g W t O hg hT h hO ht he ([wIf] ++ nws th ++ [wThen]) (fun w h' => br_f th el op v nm false p q1 q2 d1 d2 W0 g w t O hg hT h' hO ht he h1 (fun x hx => hw x (by simp [hx])))
  | true => exact pn_4 th el op v nm true p q1 q2 d1 d2 W0 g W t O hg hT h hO ht he ([wIf] ++ nws th ++ [wElse] ++ nws el ++ [wThen]) (fun w h' => br_t th el op v nm true p q1 q2 d1 d2 W0 g w t O hg hT h' hO ht he h1 h2 (fun x hx => hw x (by simp [hx])) (fun x hx => hw x (by simp [hx])))
 by_cases e6 : k = 6
 ·subst e6
  exact pn_6 th el op v nm has p q1 q2 d1 d2 W0 g W t O hg hT h hO ht he h1 h2 (fun x hx => hw x (by simp [hx])) (fun x hx => hw x (by simp [hx]))
 by_cases e5 : k = 5
 ·subst e5
  exact pn_5 th el op v nm has p q1 q2 d1 d2 W0 g W t O hg hT h hO ht he h1 (fun x hx => hw x (by simp [hx]))
 by_cases e7 : k = 7
 ·subst e7
  exact pn_7 th el op v nm has p q1 q2 d1 d2 W0 g W t O hg hT h hO ht he h1 (fun x hx => hw x (by simp [hx]))
 by_cases e8 : k = 8
 ·subst e8
  exact pn_8 th el op v nm has p q1 q2 d1 d2 W0 g W t O hg hT h hO ht he h1 (fun x hx => hw x (by simp [hx]))
 rw [if_neg e1, if_neg e2, if_neg e3, if_neg e9, if_neg e4, if_neg e6, if_neg e5, if_neg e7, if_neg e8]
 exact pn_0 th el op v nm has p q1 q2 d1 d2 W0 g W t O hg hT h hO ht he k e1 e2 e3 e4 e5 e6 e7 e8 e9
theorem nodes_any (l : List Nd) (W0 : World) (g : Nat) (W : World) (t : List UInt8) (v : Value) (O : Nat -> Prop) (hg : W0.heap.size = g) (hT : P10 W0) (h : PS W0 g W t) (hO : ∀ i, O i -> i < g) (hv : NV W0 O v l) (hw : ∀ w ∈ nws l, w.size <= 100) :
  Calls Tryz.prog 49 #[.pointer (some ⟨g, 0, none⟩), v] W (PO W0 g (puts t (nws l)) W) := nodes_of l (fun m _ => node_any m) W0 g W t v O hg hT h hO hv hw
end Go.Proofs.YtdnklgceghllaaaGreatDoor.M
