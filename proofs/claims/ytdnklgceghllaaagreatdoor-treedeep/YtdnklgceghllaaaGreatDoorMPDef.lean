import Derived.Test.YtdnklgceghllaaaGreatDoorMPw
import Derived.Test.YtdnklgceghllaaaGreatDoorMNode
import Derived.Deep.RegionHeld
import Derived.Deep.RegionHeldLaw
namespace Go.Proofs.YtdnklgceghllaaaGreatDoor.M
open Go.RowKit
open Go.Proofs
open Go.Proofs.YtdnklgceghllaaaGreatDoor.Y (Nd Df Ps Bk hid)
set_option linter.unusedVariables false
set_option linter.unusedSimpArgs false
set_option maxHeartbeats 4000000
set_option maxRecDepth 100000
theorem bz_at (l : List UInt8) (j : Nat) : (bz l)[j]? = l[j]?.map fun x => .int .u8 (x.toNat : Int) := by rw [bz, List.getElem?_map]
theorem bz_set (l : List UInt8) (j : Nat) (x : UInt8) : (bz l).set j (.int .u8 (x.toNat : Int)) = bz (l.set j x) := by
 apply List.ext_getElem?
 intro i
 rw [List.getElem?_set, bz_at, bz_at, List.getElem?_set, bz_len]
 split
 ·split <;> rfl
 ·rfl
theorem endLine_any (W0 : World) (g : Nat) (W : World) (t : List UInt8) (h : PS W0 g W t) (ht : t ≠ []) :
  Calls Tryz.prog 51 #[.pointer (some ⟨g, 0, none⟩)] W (PO W0 g (endL t) W) := by
 obtain ⟨m, hm⟩ : ∃ m, t.length = m + 1 := ⟨t.length - 1, by have := List.length_pos_iff.2 ht; omega⟩
 have hfew := h.few
 obtain ⟨v, hv, hr⟩ := h.blk
 obtain ⟨gb, cap, rfl⟩ := S.own_pos hr (by omega)
 have hgb := hr.lt gb rfl
 obtain ⟨n, hn⟩ : ∃ n, t.length = n := ⟨_, rfl⟩
 have hnm : n = m + 1 := by omega
 rw [hn] at hr hv
 have y0 : W.drew.cell? ⟨g, 0, none⟩ = some (.slice (some ⟨gb, 0, none⟩) n cap) := S.cell_of W g 0 _ PRT _ hv rfl
 obtain ⟨x, hx⟩ : ∃ x, W.drew.cell? ⟨gb, m, none⟩ = some (.int .u8 x) := by
  have hlt : m < t.length := by omega
  refine ⟨((t[m]'hlt).toNat : Int), ?_⟩
  have := World.ownsRow.cells hr (g := gb) rfl m (.int .u8 ((t[m]'hlt).toNat : Int)) (by rw [bz_at, List.getElem?_eq_getElem hlt]; rfl)
  rw [Addr.add_lit, Nat.zero_add] at this
  exact this
 have z0 : W.drew.frozen? ⟨gb, m, none⟩ = false := hr.frozenAt m
 obtain ⟨hr2, hg2⟩ := hr.stored m (.int .u8 10)
 have e10 : (bz t).set m (.int .u8 10) = bz (endL t) := by
  have := bz_set t m 10
  rw [show endL t = t.set m 10 by unfold endL; rw [hm, Nat.add_sub_cancel], <- this]
  rfl
 rw [e10] at hr2
 have s1 : ((W.setCell ⟨gb, m, none⟩ (.int .u8 10)).drew).cell? ⟨g, 0, none⟩ = some (.slice (some ⟨gb, 0, none⟩) n cap) := by
  exact (World.cell?_of_block (w' := W.setCell ⟨gb, m, none⟩ (.int .u8 10)) (w := W) (a := ⟨g, 0, none⟩) (heap_setCell_other W ⟨gb, m, none⟩ g _ (by show g ≠ gb; omega))).trans y0
 have hB : Below g W0 ((W.setCell ⟨gb, m, none⟩ (.int .u8 10)).drew) := (h.bel.setCell (p := ⟨gb, m, none⟩) (by show g <= gb; omega) _).drew
 have hlen : (endL t).length = n := by unfold endL; rw [List.length_set, hn]
 have hv2 : ((W.setCell ⟨gb, m, none⟩ (.int .u8 10)).drew).heap[g]? = some (.cells [.slice (some ⟨gb, 0, none⟩) n cap].toArray PRT (0, 0)) := (heap_setCell_other W ⟨gb, m, none⟩ g _ (by show g ≠ gb; omega)).trans hv
 have hty := own_ty hr gb rfl
 have HF := hid (show PO W0 g (endL t) W (.returned (.tuple #[])) ((W.setCell ⟨gb, m, none⟩ (.int .u8 10)).drew) from ⟨rfl, ⟨⟨_, hv2, by rw [hlen]; exact hr2⟩, hB, by omega⟩, fun j c hj h1 h2 => by
  refine (heap_setCell_other W ⟨gb, m, none⟩ j _ (fun e => ?_)).trans hj
  have e' : j = gb := e
  rw [e'] at hj
  obtain ⟨cs, hcs⟩ := hty
  rw [hj] at hcs
  cases hcs
  exact h2 _ rfl⟩)
 have i1 : IntKind.i64.wrap ((n : Int) - 1) = (m : Int) := by rw [S.i64_id _ (by omega) (by omega)]; omega
 have i2 : wrap64 ((n : Int) - 1) = (m : Int) := by unfold wrap64; omega
 have i3 : (m : Int) < (n : Int) := by omega
 have i4 : (0 : Int) <= (m : Int) := by omega
 have i5 : (n : Int) - 1 = (m : Int) := by omega
 have i6 : m < n := by omega
 have i7 : wrap64 (m : Int) = (m : Int) := by unfold wrap64; omega
 have i8 : IntKind.i64.wrap (m : Int) = (m : Int) := S.i64_id _ (by omega) (by omega)
 clear hB hv2 hr2 e10 hr hv hlen hg2 h hm hn hnm hfew hgb hty ht
 go_enter Tryz.func51, Tryz.ntmps51
 go_region_held (fun w' => w'.cell? ⟨g, 0, none⟩ = some (.slice (some ⟨gb, 0, none⟩) n cap))
  (first | (with_reducible exact y0) | (with_reducible exact s1))
  (first | fail)
 all_goals
  go_wp2
  refine bodyPost_ret (results_none rfl _ _ _) rfl ?_
  exact HF.out
end Go.Proofs.YtdnklgceghllaaaGreatDoor.M
namespace Go.Proofs.YtdnklgceghllaaaGreatDoor.M
open Go.RowKit
open Go.Proofs
open Go.Proofs.YtdnklgceghllaaaGreatDoor.Y (Nd Df Ps Bk ndc dfc NV NA N1 cells6 cells9 hid)
set_option linter.unusedVariables false
set_option linter.unusedSimpArgs false
set_option maxHeartbeats 4000000
set_option maxRecDepth 100000
theorem put1_ne (t : List UInt8) (w : ByteArray) : put1 t w ≠ [] := by
 unfold put1
 split
 ·simp
 ·rename_i h
  intro e
  rw [e] at h
  simp at h
theorem puts_ne : ∀ (ws : List ByteArray) (t : List UInt8), ws ≠ [] -> puts t ws ≠ []
 | [], _, h => absurd rfl h
 | [w], t, _ => put1_ne t w
 | w :: w' :: r, t, _ => puts_ne (w' :: r) (put1 t w) (by simp)
theorem box_def {W0 : World} {g : Nat} {W : World} {t : List UInt8} (h : PS W0 g W t) (n : Df) (bv : Value) : ∃ W1, W.alloc (.cells #[.int .i64 n.k, .string n.nm, .int .u16 n.v, bv, .int .i64 n.p.1, .int .i64 n.p.2] 45) = W1 /\ PS W0 g W1 t /\ KP g W W1 /\ W1.heap[W.heap.size]? = some (.cells (dfc n bv).toArray 45 (0, 0)) /\ W.heap.size ≠ g := by
 refine ⟨_, rfl, h.next ((Below.refl _ _).alloc (Nat.le_refl _) _), KP.of ((Below.refl _ _).alloc (Nat.le_refl _) _), heap_alloc_new W _, ?_⟩
 have := h.lt
 omega
theorem boxd_cells {g : Nat} {W1 : World} {b : Nat} {n : Df} {bv : Value} (v1 : W1.heap[b]? = some (.cells (dfc n bv).toArray 45 (0, 0))) (hb : b ≠ g) {w : World} (k : KP g W1 w) : w.cell? ⟨b, 0, none⟩ = some (.int .i64 n.k) /\ w.cell? ⟨b, 1, none⟩ = some (.string n.nm) /\ w.cell? ⟨b, 2, none⟩ = some (.int .u16 n.v) /\ w.cell? ⟨b, 3, none⟩ = some bv /\ w.cell? ⟨b, 4, none⟩ = some (.int .i64 n.p.1) /\ w.cell? ⟨b, 5, none⟩ = some (.int .i64 n.p.2) := by
 have v2 := k b _ v1 hb (by intro cs e; simp only [Obj.cells.injEq] at e; exact absurd e.2.1 (by decide))
 have := cells6 (W := w) (b := b) (o := 0) (n := n) (bv := bv) fun j x hx => by rw [Nat.zero_add]; exact S.cell_of w _ j _ 45 x v2 hx
 simpa only [Nat.zero_add] using this
theorem KP.drew {g : Nat} {W : World} : KP g W W.drew := fun _ _ h _ _ => h
theorem PS.drew {W0 : World} {g : Nat} {W : World} {t : List UInt8} (h : PS W0 g W t) : PS W0 g W.drew t := by
 obtain ⟨v, h1, h2⟩ := h.blk
 exact ⟨⟨v, h1, h2⟩, h.bel.drew, h.few⟩
theorem pd_1 (body : List Nd) (nm : ByteArray) (v : Int) (p : Ps) (q : Option Addr) (d1 : Nat) (W0 : World) (g : Nat) (W : World) (t : List UInt8) (O : Nat -> Prop) (hg : W0.heap.size = g) (hT : P10 W0) (h : PS W0 g W t) (hO : ∀ i, O i -> i < g) (hb : NV W0 O (.slice q body.length d1) body) (hnm : nm.size <= 100) (hw : ∀ w ∈ nws body, w.size <= 100) :
  Calls Tryz.prog 23 #[.pointer (some ⟨g, 0, none⟩), .agg #[.int .i64 1, .string nm, .int .u16 v, .slice q body.length d1, .int .i64 p.1, .int .i64 p.2]] W (PO W0 g (endL (puts t ([wColon, nm] ++ nws body ++ [wSemi]))) W) := by
 obtain ⟨W1, hW1, hP1, hK1, v1, hbg⟩ := box_def h ⟨1, nm, v, body, p⟩ (.slice q body.length d1)
 obtain ⟨x0, x1, x2, x3, x4, x5⟩ := boxd_cells v1 hbg (KP.refl g W1)
 simp only at x0 x1 x2 x3 x4 x5 hW1
 have HX := hid (fun (w : World) (k : KP g W1 w) => boxd_cells v1 hbg k)
 have hc1 := put_two hP1 ⟨#[58]⟩ nm (by decide) hnm
 have HE := hid (fun (w : World) (t' : List UInt8) (h' : PS W0 g w t') => nodes_any body W0 g w t' _ O hg hT h' hO hb hw)
 have H1 := hid hK1
 clear hw
 clear h hg hT hO hb v1 hP1 hK1 hnm
 go_enter Tryz.func23, Tryz.ntmps23
 go_wp2_with fail
 try rw [hW1]
 refine hc1.mono ?_
 rintro e w2 ⟨rfl, h2, k2⟩
 have hc2 := HE.out w2 _ h2
 obtain ⟨y0, y1, y2, y3, y4, y5⟩ := HX.out w2 k2
 try simp only at y0 y1 y2 y3 y4 y5
 have H2 := hid (H1.out.trans k2)
 clear hc1 h2 k2 x0 x1 x2 x3 x4 x5
 go_wp2_with fail
 refine hc2.mono ?_
 rintro e w3 ⟨rfl, h3, k3⟩
 have hc3 := put_one h3 ⟨#[59]⟩ (by decide)
 have H3 := hid (H2.out.trans k3)
 clear hc2 h3 k3
 go_wp2_with fail
 refine hc3.mono ?_
 rintro e w9 ⟨rfl, h9, k9⟩
 rw [<- puts_app, <- puts_app] at h9
 have H9 := hid (And.intro h9 (H3.out.trans k9))
 clear hc3 h9 k9 y0 y1 y2 y3 y4 y5
 have hce := endLine_any W0 g w9 _ H9.out.1 (puts_ne _ _ (by simp))
 have H10 := hid H9.out.2
 clear H9
 go_wp2_with fail
 refine hce.mono ?_
 rintro e w10 ⟨rfl, h10, k10⟩
 have H11 := hid (And.intro h10 (H10.out.trans k10))
 clear hce h10 k10
 go_wp2
 refine bodyPost_ret (results_none rfl _ _ _) rfl ?_
 exact ⟨rfl, H11.out⟩
theorem pd_2 (body : List Nd) (nm : ByteArray) (v : Int) (p : Ps) (q : Option Addr) (d1 : Nat) (W0 : World) (g : Nat) (W : World) (t : List UInt8) (O : Nat -> Prop) (hg : W0.heap.size = g) (hT : P10 W0) (h : PS W0 g W t) (hO : ∀ i, O i -> i < g) (hb : NV W0 O (.slice q body.length d1) body) (hnm : nm.size <= 100) (hs : (dcm v).size <= 100) :
  Calls Tryz.prog 23 #[.pointer (some ⟨g, 0, none⟩), .agg #[.int .i64 2, .string nm, .int .u16 v, .slice q body.length d1, .int .i64 p.1, .int .i64 p.2]] W (PO W0 g (endL (puts t ([dcm v, wConst, nm]))) W) := by
 obtain ⟨W1, hW1, hP1, hK1, v1, hbg⟩ := box_def h ⟨2, nm, v, body, p⟩ (.slice q body.length d1)
 obtain ⟨x0, x1, x2, x3, x4, x5⟩ := boxd_cells v1 hbg (KP.refl g W1)
 simp only at x0 x1 x2 x3 x4 x5 hW1
 have HX := hid (fun (w : World) (k : KP g W1 w) => boxd_cells v1 hbg k)
 have hc := decimal_any v W1.drew (hT.below (by rw [hg]; exact hP1.bel.drew))
 have H1 := hid (And.intro hP1 (And.intro hK1 (And.intro hs hnm)))
 generalize dcm v = s at *
 have s0 : W1.drew.cell? ⟨W.heap.size, 1, none⟩ = some (.string nm) /\ W1.drew.cell? ⟨W.heap.size, 2, none⟩ = some (.int .u16 v) := ⟨x1, x2⟩
 clear h hg hT hO hb v1 hP1 hK1 hnm
 go_enter Tryz.func23, Tryz.ntmps23
 go_wp2_with fail
 try rw [hW1]
 go_region_held (fun w' => w'.cell? ⟨W.heap.size, 1, none⟩ = some (.string nm) /\ w'.cell? ⟨W.heap.size, 2, none⟩ = some (.int .u16 v))
  (first | (with_reducible exact s0) | (with_reducible exact s1) | (with_reducible exact s2) | (with_reducible exact s3))
  (first
   | (go_at_call 50; refine hc.mono ?_; rintro e w2 ⟨rfl, hb2⟩; have K2 : KP g W1 w2 := KP.drew.trans (KP.of hb2); have P2 := H1.out.1.drew.next hb2; have s1 := (fun (a : _ /\ _) => And.intro a.2.1 a.2.2.1) (HX.out w2 K2); have s2 := (fun (a : _ /\ _) => And.intro a.2.1 a.2.2.1) (HX.out (w2.alloc (.cells #[.string s, .string ⟨#[99, 111, 110, 115, 116, 97, 110, 116]⟩, .string nm] 9)) (K2.trans (KP.of ((Below.refl _ _).alloc (Nat.le_refl _) _)))); have HP2 := hid P2; have HK2 := hid K2; clear P2 K2 hb2)
   | (go_at_call 48; refine (put_three HP2.out s ⟨#[99, 111, 110, 115, 116, 97, 110, 116]⟩ nm H1.out.2.2.1 (by decide) H1.out.2.2.2).mono ?_; rintro e w9 ⟨rfl, h9, k9⟩; have K9 := HK2.out.trans k9; have s3 := (fun (a : _ /\ _) => And.intro a.2.1 a.2.2.1) (HX.out w9 K9); have H9 := hid (And.intro h9 (H1.out.2.1.trans K9)); clear h9 k9 K9))
 all_goals
  try simp only [Act.put, List.setIfInBounds_toArray, List.set_cons_zero, List.set_cons_succ]
  clear s0 s1 s2 s3 hc x0 x1 x2 x3 x4 x5
  have hce := endLine_any W0 g w9 _ H9.out.1 (puts_ne _ _ (by simp))
  have H10 := hid H9.out.2
  clear H9
  go_wp2_with fail
  refine hce.mono ?_
  rintro e w10 ⟨rfl, h10, k10⟩
  have H11 := hid (And.intro h10 (H10.out.trans k10))
  clear hce h10 k10
  go_wp2
  refine bodyPost_ret (results_none rfl _ _ _) rfl ?_
  exact ⟨rfl, H11.out⟩
theorem pd_3 (k : Int) (body : List Nd) (nm : ByteArray) (p : Ps) (q : Option Addr) (d1 : Nat) (W0 : World) (g : Nat) (W : World) (t : List UInt8) (O : Nat -> Prop) (hg : W0.heap.size = g) (hT : P10 W0) (h : PS W0 g W t) (hO : ∀ i, O i -> i < g) (hb : NV W0 O (.slice q body.length d1) body) (hnm : nm.size <= 100) (e1 : ¬ k = 1) (e2 : ¬ k = 2) :
  Calls Tryz.prog 23 #[.pointer (some ⟨g, 0, none⟩), .agg #[.int .i64 k, .string nm, .int .u16 2, .slice q body.length d1, .int .i64 p.1, .int .i64 p.2]] W (PO W0 g (endL (puts t ([wVar, nm]))) W) := by
 obtain ⟨W1, hW1, hP1, hK1, v1, hbg⟩ := box_def h ⟨k, nm, 2, body, p⟩ (.slice q body.length d1)
 obtain ⟨x0, x1, x2, x3, x4, x5⟩ := boxd_cells v1 hbg (KP.refl g W1)
 simp only at x0 x1 x2 x3 x4 x5 hW1
 have HX := hid (fun (w : World) (k : KP g W1 w) => boxd_cells v1 hbg k)
 have b1 : (k == 1) = false := by simpa using e1
 have b2 : (k == 2) = false := by simpa using e2
 have hc1 := put_two hP1 ⟨#[118, 97, 114, 105, 97, 98, 108, 101]⟩ nm (by decide) hnm
 have H1 := hid hK1
 clear h hg hT hO hb v1 hP1 hK1 hnm
 go_enter Tryz.func23, Tryz.ntmps23
 go_wp2_with fail
 try rw [hW1]
 refine hc1.mono ?_
 rintro e w9 ⟨rfl, h9, k9⟩
 have H9 := hid (And.intro h9 (H1.out.trans k9))
 clear hc1 h9 k9 x0 x1 x2 x3 x4 x5
 have hce := endLine_any W0 g w9 _ H9.out.1 (puts_ne _ _ (by simp))
 have H10 := hid H9.out.2
 clear H9
 go_wp2_with fail
 refine hce.mono ?_
 rintro e w10 ⟨rfl, h10, k10⟩
 have H11 := hid (And.intro h10 (H10.out.trans k10))
 clear hce h10 k10
 go_wp2
 refine bodyPost_ret (results_none rfl _ _ _) rfl ?_
 exact ⟨rfl, H11.out⟩
theorem pd_4 (k : Int) (body : List Nd) (nm : ByteArray) (v : Int) (p : Ps) (q : Option Addr) (d1 : Nat) (W0 : World) (g : Nat) (W : World) (t : List UInt8) (O : Nat -> Prop) (hg : W0.heap.size = g) (hT : P10 W0) (h : PS W0 g W t) (hO : ∀ i, O i -> i < g) (hb : NV W0 O (.slice q body.length d1) body) (hnm : nm.size <= 100) (e1 : ¬ k = 1) (e2 : ¬ k = 2) (e3 : ¬ v = 2) (hs : (dcm v).size <= 100) :
  Calls Tryz.prog 23 #[.pointer (some ⟨g, 0, none⟩), .agg #[.int .i64 k, .string nm, .int .u16 v, .slice q body.length d1, .int .i64 p.1, .int .i64 p.2]] W (PO W0 g (endL (puts t ([dcm v, wBuf, nm]))) W) := by
 obtain ⟨W1, hW1, hP1, hK1, v1, hbg⟩ := box_def h ⟨k, nm, v, body, p⟩ (.slice q body.length d1)
 obtain ⟨x0, x1, x2, x3, x4, x5⟩ := boxd_cells v1 hbg (KP.refl g W1)
 simp only at x0 x1 x2 x3 x4 x5 hW1
 have HX := hid (fun (w : World) (k : KP g W1 w) => boxd_cells v1 hbg k)
 have b1 : (k == 1) = false := by simpa using e1
 have b2 : (k == 2) = false := by simpa using e2
 have b3 : (v == 2) = false := by simpa using e3
 have hc := decimal_any v W1.drew (hT.below (by rw [hg]; exact hP1.bel.drew))
 have H1 := hid (And.intro hP1 (And.intro hK1 (And.intro hs hnm)))
 generalize dcm v = s at *
 have s0 : W1.drew.cell? ⟨W.heap.size, 1, none⟩ = some (.string nm) /\ W1.drew.cell? ⟨W.heap.size, 2, none⟩ = some (.int .u16 v) := ⟨x1, x2⟩
 clear h hg hT hO hb v1 hP1 hK1 hnm
 go_enter Tryz.func23, Tryz.ntmps23
 go_wp2_with fail
 try rw [hW1]
 go_region_held (fun w' => w'.cell? ⟨W.heap.size, 1, none⟩ = some (.string nm) /\ w'.cell? ⟨W.heap.size, 2, none⟩ = some (.int .u16 v))
  (first | (with_reducible exact s0) | (with_reducible exact s1) | (with_reducible exact s2) | (with_reducible exact s3))
  (first
   | (go_at_call 50; refine hc.mono ?_; rintro e w2 ⟨rfl, hb2⟩; have K2 : KP g W1 w2 := KP.drew.trans (KP.of hb2); have P2 := H1.out.1.drew.next hb2; have s1 := (fun (a : _ /\ _) => And.intro a.2.1 a.2.2.1) (HX.out w2 K2); have s2 := (fun (a : _ /\ _) => And.intro a.2.1 a.2.2.1) (HX.out (w2.alloc (.cells #[.string s, .string ⟨#[98, 117, 102, 102, 101, 114]⟩, .string nm] 9)) (K2.trans (KP.of ((Below.refl _ _).alloc (Nat.le_refl _) _)))); have HP2 := hid P2; have HK2 := hid K2; clear P2 K2 hb2)
   | (go_at_call 48; refine (put_three HP2.out s ⟨#[98, 117, 102, 102, 101, 114]⟩ nm H1.out.2.2.1 (by decide) H1.out.2.2.2).mono ?_; rintro e w9 ⟨rfl, h9, k9⟩; have K9 := HK2.out.trans k9; have s3 := (fun (a : _ /\ _) => And.intro a.2.1 a.2.2.1) (HX.out w9 K9); have H9 := hid (And.intro h9 (H1.out.2.1.trans K9)); clear h9 k9 K9))
 all_goals
  try simp only [Act.put, List.setIfInBounds_toArray, List.set_cons_zero, List.set_cons_succ]
  clear s0 s1 s2 s3 hc x0 x1 x2 x3 x4 x5
  have hce := endLine_any W0 g w9 _ H9.out.1 (puts_ne _ _ (by simp))
  have H10 := hid H9.out.2
  clear H9
  go_wp2_with fail
  refine hce.mono ?_
  rintro e w10 ⟨rfl, h10, k10⟩
  have H11 := hid (And.intro h10 (H10.out.trans k10))
  clear hce h10 k10
  go_wp2
  refine bodyPost_ret (results_none rfl _ _ _) rfl ?_
  exact ⟨rfl, H11.out⟩
theorem def_any (d : Df) (bv : Value) (W0 : World) (g : Nat) (W : World) (t : List UInt8) (O : Nat -> Prop) (hg : W0.heap.size = g) (hT : P10 W0) (h : PS W0 g W t) (hO : ∀ i, O i -> i < g) (hb : NV W0 O bv d.body) (hw : ∀ w ∈ dw d, w.size <= 100) :
  Calls Tryz.prog 23 #[.pointer (some ⟨g, 0, none⟩), .agg (dfc d bv).toArray] W (PO W0 g (endL (puts t (dw d))) W) := by
 obtain ⟨q1, d1, rfl, _, _⟩ := hb.ex
 obtain ⟨k, nm, v, body, p⟩ := d
 unfold dw at hw ⊢
 simp only at hw hb ⊢
 by_cases e1 : k = 1
 ·subst e1
  exact pd_1 body nm v p q1 d1 W0 g W t O hg hT h hO hb (hw _ (by simp)) (fun x hx => hw x (by simp [hx]))
 rw [if_neg e1] at hw ⊢
 by_cases e2 : k = 2
 ·subst e2
  exact pd_2 body nm v p q1 d1 W0 g W t O hg hT h hO hb (hw _ (by simp)) (hw _ (by simp))
 rw [if_neg e2] at hw ⊢
 by_cases e3 : v = 2
 ·subst e3
  exact pd_3 k body nm p q1 d1 W0 g W t O hg hT h hO hb (hw _ (by simp)) e1 e2
 rw [if_neg e3] at hw ⊢
 exact pd_4 k body nm v p q1 d1 W0 g W t O hg hT h hO hb (hw _ (by simp)) e1 e2 e3 (hw _ (by simp))
open Go.Proofs.YtdnklgceghllaaaGreatDoor.Y (Nd Df Ps Bk BS hid)
set_option linter.unusedVariables false
set_option linter.unusedSimpArgs false
set_option maxHeartbeats 4000000
set_option maxRecDepth 100000
def dws (l : List UInt8) : List ByteArray := l.map fun x => dcm (x.toNat : Int)
theorem dws_take (l : List UInt8) (k : Nat) (x : UInt8) (h : l[k]? = some x) : dws (l.take (k + 1)) = dws (l.take k) ++ [dcm (x.toNat : Int)] := by
 unfold dws
 rw [List.take_add_one, h, List.map_append]
 rfl
theorem bank_any (b : Bk) (bv : Value) (W0 : World) (g : Nat) (W : World) (t : List UInt8) (O : Nat -> Prop) (hg : W0.heap.size = g) (hT : P10 W0) (h : PS W0 g W t) (hO : ∀ i, O i -> i < g) (hb : BS W0 O bv b.2) (hl : b.2.length <= 140737488355328) (hw : ∀ w ∈ bw b, w.size <= 100) :
  Calls Tryz.prog 24 #[.pointer (some ⟨g, 0, none⟩), .agg #[.int .i64 b.1, bv]] W (PO W0 g (endL (puts t (bw b))) W) := by
 obtain ⟨num, l⟩ := b
 simp only at hb hl hw ⊢
 have hx : ∀ k x, l[k]? = some x -> ∃ (q : Addr) (c : Nat), bv = .slice (some q) l.length c /\ (∀ w, Below g W0 w -> w.cell? (q.add k) = some (.int .u8 (x.toNat : Int))) := by
  intro k x hk
  rcases hb with ⟨_, rfl⟩ | ⟨bb, o, c, rfl, hOb, hcs⟩
  ·simp at hk
  ·refine ⟨⟨bb, o, none⟩, c, rfl, fun w hbw => ?_⟩
   rw [Addr.add_lit]
   exact (World.cell?_of_block (w := W0) (a := ⟨bb, o + k, none⟩) (hbw.block bb (hO bb hOb))).trans (hcs k x hk)
 obtain ⟨q0, c0, rfl⟩ := hb.ex
 have hw1 : (dcm (IntKind.u16.wrap num)).size <= 100 := hw _ (by unfold bw; simp)
 have hw2 : ∀ x ∈ l, (dcm (x.toNat : Int)).size <= 100 := fun x hx => hw _ (by unfold bw; simp; exact .inr (.inr (.inr (.inl ⟨x, hx, rfl⟩))))
 obtain ⟨W1, hW1⟩ : ∃ W1, W.alloc (.cells #[.int .i64 num, .slice q0 l.length c0] 63) = W1 := ⟨_, rfl⟩
 have hb1 : Below W.heap.size W W1 := by rw [<- hW1]; exact (Below.refl _ _).alloc (Nat.le_refl _) _
 have v1 : W1.heap[W.heap.size]? = some (.cells [.int .i64 num, .slice q0 l.length c0].toArray 63 (0, 0)) := by rw [<- hW1]; exact heap_alloc_new W _
 have hbg : W.heap.size ≠ g := by have := h.lt; omega
 have hP1 := h.next hb1
 have hBX : ∀ w, KP g W1 w -> w.cell? ⟨W.heap.size, 0, none⟩ = some (.int .i64 num) /\ w.cell? ⟨W.heap.size, 1, none⟩ = some (.slice q0 l.length c0) := fun w k => by
  have v2 := k _ _ v1 hbg (by intro cs e; simp only [Obj.cells.injEq] at e; exact absurd e.2.1 (by decide))
  exact ⟨S.cell_of w _ 0 _ 63 _ v2 rfl, S.cell_of w _ 1 _ 63 _ v2 rfl⟩
 obtain ⟨x0, x1⟩ := hBX W1 (KP.refl g W1)
 have HX := hid (And.intro hx hBX)
 have hc := decimal_any (IntKind.u16.wrap num) W1 (hT.below (by rw [hg]; exact hP1.bel))
 have HT := hid (And.intro hT hg)
 have H1 := hid (And.intro hP1 (And.intro (KP.of (g := g) hb1) (And.intro hw1 hw2)))
 have hgoal : bw (num, l) = [dcm (IntKind.u16.wrap num), wBank, wOpen] ++ dws l ++ [wShut] := rfl
 rw [hgoal]
 obtain ⟨m, wm⟩ : ∃ m, IntKind.u16.wrap num = m := ⟨_, rfl⟩
 rw [wm] at hc H1 ⊢
 generalize dcm m = s at *
 have HL := hid hl
 clear hx hBX hb hw hw1 hw2 hb1 v1 hbg hP1 hT hg h hO hgoal hl
 go_enter Tryz.func24, Tryz.ntmps24
 go_wp2_with fail
 refine hc.mono ?_
 rintro e w2 ⟨rfl, hb2⟩
 have hc2 := put_three (H1.out.1.next hb2) s ⟨#[98, 97, 110, 107]⟩ ⟨#[123]⟩ H1.out.2.2.1 (by decide) (by decide)
 have H2 := hid (KP.of (g := g) hb2)
 clear hc hb2
 go_wp2_with fail
 refine hc2.mono ?_
 rintro e w3 ⟨rfl, h3, k3⟩
 have k13 := H2.out.trans k3
 obtain ⟨y0, y1⟩ := HX.out.2 w3 k13
 have H3 := hid (And.intro h3 k13)
 clear hc2 h3 k3 k13 x0 x1
 go_wp2_with fail
 go_loopw [16] (fun i wr => ∃ k : Nat, k <= l.length /\ i = .int .i64 (k : Int) /\ PS W0 g wr (puts (puts t [s, ⟨#[98, 97, 110, 107]⟩, ⟨#[123]⟩]) (dws (l.take k))) /\ KP g W1 wr) (fun i _ => l.length - (intOf i).toNat)
 case atStart => exact ⟨0, by omega, rfl, H3.out.1, H3.out.2⟩
 case round =>
  obtain ⟨k, hk, rfl, hP, hK⟩ := hrel
  have hl := HL.out
  by_cases hlt : k < l.length
  ·have i1 : (k : Int) < l.length := by omega
   have ea := List.getElem?_eq_getElem hlt
   have hsz := H1.out.2.2.2 l[k] (List.getElem_mem _)
   have htk := dws_take l k l[k] ea
   generalize l[k] = x at *
   obtain ⟨q, c, hqe, hcell⟩ := HX.out.1 k x ea
   simp only [Value.slice.injEq] at hqe
   obtain ⟨rfl, _, rfl⟩ := hqe
   have g0 := hcell wr hP.bel
   have wv : IntKind.u16.wrap (x.toNat : Int) = (x.toNat : Int) := by have := x.toNat_lt; rw [IntKind.wrap_u16]; omega
   have hc := decimal_any (x.toNat : Int) wr (HT.out.1.below (by rw [HT.out.2]; exact hP.bel))
   obtain ⟨z, hz⟩ : ∃ z : Int, (x.toNat : Int) = z := ⟨_, rfl⟩
   rw [hz] at wv hc htk hsz g0
   generalize dcm z = u at *
   have HH := hid (And.intro hP (And.intro hK (And.intro htk hsz)))
   clear hP hK htk hsz hcell ea hz
   go_wp2_with fail
   refine hc.mono ?_
   rintro e w4 ⟨rfl, hb4⟩
   have hc2 := put_one (HH.out.1.next hb4) u HH.out.2.2.2
   have H4 := hid (HH.out.2.1.trans (KP.of hb4))
   clear hc hb4 g0
   go_wp2_with fail
   refine hc2.mono ?_
   rintro e w5 ⟨rfl, h5, k5⟩
   rw [<- puts_app] at h5
   have HR := hid (show PS W0 g w5 (puts (puts t [s, ⟨#[98, 97, 110, 107]⟩, ⟨#[123]⟩]) (dws (l.take (k + 1)))) /\ KP g W1 w5 from ⟨by rw [HH.out.2.2.1]; exact h5, H4.out.trans k5⟩)
   clear hc2 h5 k5
   go_wp2
   go_roundw
   case rel => first | exact ⟨k + 1, by omega, by go_num, HR.out.1, HR.out.2⟩ | ((repeat apply Exists.intro); refine ⟨⟨k + 1, by omega, ?_, HR.out.1, HR.out.2⟩, rfl⟩; go_num)
   case measure => simp [intOf]; omega
  ·obtain rfl : k = l.length := by omega
   have i1 : ¬ ((l.length : Nat) : Int) < l.length := by omega
   rw [List.take_length] at hP
   have hc3 := put_one hP ⟨#[125]⟩ (by decide)
   have H4 := hid hK
   clear hP hK
   go_wp2_with fail
   refine hc3.mono ?_
   rintro e w9 ⟨rfl, h9, k9⟩
   rw [<- puts_app, <- puts_app, <- List.append_assoc] at h9
   have hce := endLine_any W0 g w9 _ h9 (puts_ne _ _ (by simp))
   have H10 := hid (H1.out.2.1.trans (H4.out.trans k9))
   clear hc3 h9 k9
   go_wp2_with fail
   refine hce.mono ?_
   rintro e w10 ⟨rfl, h10, k10⟩
   have H11 := hid (And.intro h10 (H10.out.trans k10))
   clear hce h10 k10
   go_wp2
   refine bodyPost_ret (results_none rfl _ _ _) rfl ?_
   exact ⟨rfl, H11.out⟩
end Go.Proofs.YtdnklgceghllaaaGreatDoor.M
