import Derived.Test.YtdnklgceghllaaaGreatDoorDDrop
import Derived.Test.YtdnklgceghllaaaGreatDoorDNext
import Derived.Deep.RegionHeldLaw
namespace Go.Proofs.YtdnklgceghllaaaGreatDoor.D
open Go.RowKit
open Go.Proofs
open Go.Proofs.YtdnklgceghllaaaGreatDoor.K (Tk)
open Go.Proofs.YtdnklgceghllaaaGreatDoor.Y (Nd Df Ps ndc dfc NV NA N1 ZV hid)
open Go.Proofs.YtdnklgceghllaaaGreatDoor.R (MP En numb)
set_option linter.unusedVariables false
set_option linter.unusedSimpArgs false
set_option maxHeartbeats 2000000
set_option maxRecDepth 100000
theorem top_any (g ob cap i : Nat) (hi : i < 1000000) (W : World) (h : W.cell? ⟨g, 13, none⟩ = some (.slice (some ⟨ob, 0, none⟩) (i + 1) cap)) :
  Calls Tryz.prog 213 #[.pointer (some ⟨g, 0, none⟩)] W fun en w' => en = .returned (.pointer (some ⟨ob, i * 9, none⟩)) /\ Below W.heap.size W w' := by
 obtain ⟨n1, hn1⟩ : ∃ n1 : Nat, i + 1 = n1 := ⟨_, rfl⟩
 rw [hn1] at h
 have hw : IntKind.i64.wrap ((n1 : Int) - 1) = (i : Int) := by rw [IntKind.wrap_i64]; omega
 have hw2 : wrap64 ((n1 : Int) - 1) = (i : Int) := by unfold wrap64; omega
 have i1 : (i : Int) < (n1 : Int) := by omega
 have i2 : i < n1 := by omega
 have i3 : (0 : Int) <= (i : Int) := by omega
 clear hn1
 go_enter Tryz.func213, Tryz.ntmps213
 go_upto_region 1 with fail
 refine wp_region_held_drew (S := (fun wz : World => wz.cell? ⟨g, 13, none⟩ = some (.slice (some ⟨ob, 0, none⟩) n1 cap))) (by kernel_rfl) (show W.drew.cell? ⟨g, 13, none⟩ = _ from h) (fun hHeld => ?_)
 have HB := hid (show Below W.heap.size W W.drew from ⟨rfl, rfl, rfl, Nat.le_refl _, fun _ _ => rfl⟩)
 clear h
 generalize W.drew = y0 at *
 refine D.zH (is := [0, 1, 2, 3, 4, 5, 6, 7, 8, 9, 10, 11]) ?_
 iterate 12
  refine D.yH (v := ?_) rfl (by kernel_rfl) (fun c a w h => h) (by rfl) ?_ hHeld ?_
  rotate_left
  ·(intro w hSw; (try dsimp only at hSw); go_simp; try with_reducible rfl)
  simp only [D.pts]
 refine D.eH ?_
 refine wpAnyH_done (by kernel_rfl) ?_ _
 clear hHeld
 go_wp2
 go_ret
 exact ⟨rfl, HB.out⟩
theorem row_cell (W : World) (b g o : Nat) (cs : Array Value) (x : Value) (h : b ≠ g) : (W.setCell ⟨g, o, none⟩ x).setRow b cs = (W.setRow b cs).setCell ⟨g, o, none⟩ x := by
 have hh : ((W.setCell ⟨g, o, none⟩ x).setRow b cs).heap = ((W.setRow b cs).setCell ⟨g, o, none⟩ x).heap := by
  apply Array.ext_getElem?
  intro k
  by_cases hb : k = b
  ·subst hb
   rw [heap_setCell_other (W.setRow k cs) ⟨g, o, none⟩ k x h]
   have e : (W.setCell ⟨g, o, none⟩ x).heap[k]? = W.heap[k]? := heap_setCell_other W ⟨g, o, none⟩ k x h
   simp only [World.setRow, Array.getElem?_modify, e]
  ·rw [setRow_other (W.setCell ⟨g, o, none⟩ x) b k cs hb]
   by_cases hg : k = g
   ·subst hg
    have e : (W.setRow b cs).heap[k]? = W.heap[k]? := setRow_other W b k cs hb
    simp only [World.setCell, Array.getElem?_modify, e]
   ·rw [heap_setCell_other W ⟨g, o, none⟩ k x hg, heap_setCell_other (W.setRow b cs) ⟨g, o, none⟩ k x hg, setRow_other W b k cs hb]
 exact congrArg (fun H => ({ W with heap := H } : World)) hh
set_option maxHeartbeats 2000000
set_option maxRecDepth 100000
theorem wp_store_at {o : Oper} {a : Act} {w : World} {K : Act -> World -> Prop} {Q : Exit -> Act -> World -> Prop} (ty : TypeId) (x y : Operand) (ho : o.op = .store ty x y)
    (e : TypeId) (cur : Array Value) (g off : Nat) (hg : w.heap[g]? = some (.cells cur e (0, 0))) (cells : Array Value) (hfit : off + cells.size <= cur.size)
    (hx : a.eval x = .pointer (some ⟨g, off, none⟩)) (hy : a.eval y = .agg cells) (hi : (Tryz.prog.info? ty).map (·.size) = some cells.size) (h1 : ∀ v ∈ cells.toList, v.oneCell' = true)
    (h : K (a.put o.dst undef) (w.setRow g (cur.toList.take off ++ cells.toList ++ cur.toList.drop (off + cells.size)).toArray)) : o.wp Tryz.prog a w K Q := by
  have hr := run_storeVar_at w g off e ty cur cells hg hi hfit h1
  unfold Oper.wp execOp
  simp only [ho, hx, hy, Instr.storeAt, Instr.sureAddr, Sem.run_bind, Sem.run_pure, Result.andThen_ok, hr]
  exact h
theorem own_tyD {W : World} {B n n' size : Nat} {e : TypeId} {v : Value} {xs : List Value} (h : W.ownsRow B e size v n' xs) (g : Nat) (hv : v.ownBlock = some g) : ∃ c, W.heap[g]? = some (.cells c e (0, 0)) := by
  rcases h.2 with ⟨e1, _⟩ | ⟨g', cap', cur, e1, _, hg, _⟩
  · rw [e1] at hv; simp [Value.ownBlock] at hv
  · rw [e1] at hv
    have : g' = g := by simpa [Value.ownBlock] using hv
    subst this
    exact ⟨_, hg⟩
theorem grew_row {W W1 : World} {v v1 : Value} {b1 : Nat} (g : S.Grew W W1 v v1) (hv : v1.ownBlock = some b1) (cs : Array Value) : S.Grew W (W1.setRow b1 cs) v v1 := by
  refine ⟨g.os, g.tape, g.output, by rw [size_setRow]; exact g.size, fun k hk hne => ?_, g.own, ?_⟩
  · have hkb : k ≠ b1 := by
      rintro rfl
      rcases g.own with o | o
      · exact hne (by rw [<- o]; exact hv.symm)
      · have := o k hv; omega
    exact (setRow_other W1 b1 k cs hkb).trans (g.block k hk hne)
  · rcases g.own with o | o
    · exact .inl o
    · refine .inr fun k hk => ?_
      have hkb : k ≠ b1 := by rintro rfl; have := o k hv; omega
      rcases g.stay with s | s
      · exact (setRow_other W1 b1 k cs hkb).trans (g.block k hk (fun e => by rw [s] at hv; rw [hv] at e; exact hkb (Option.some.inj e)))
      · exact (setRow_other W1 b1 k cs hkb).trans (s k hk)
theorem RS.grewN {W0 : World} {pm : Px} {g : Nat} {e : Ps} {W W' : World} {r : Rd} {q : Rv} (h : RS W0 pm g e W r q) {v v' : Value} {n : Nat} {xs : List Value} {k : Nat} (hr : W.ownsRow 0 ND 9 v n xs) (hc : ∀ b, v.ownBlock = some b -> q.c b = k) (hk : k ≠ 0) (hk1 : k ≠ 1) (gr : S.Grew W W' v v') :
    W'.heap[g]? = some (.cells (rdc e r q).toArray RD (0, 0)) /\ Below W0.heap.size W0 W' /\ MP W' q.mn (numb (r.defs.map (·.nm)) 0) /\ MP W' q.mp pm.m /\ W'.ownsRow (g + 1) DF 6 q.dv r.defs.length (dcs r.defs q.ws) /\
      (∀ (i : Nat) (d : Df) (w : Value), r.defs[i]? = some d -> q.ws[i]? = some w -> NV W' (fun b => paint q.c v' k b = 1) w d.body) /\ W'.ownsRow (g + 1) BK 2 q.xv r.banks.length (bcs r.banks q.zs) /\
      (∀ (i : Nat) (d : Int × List UInt8) (w : Value), r.banks[i]? = some d -> q.zs[i]? = some w -> W'.ownsRow (g + 1) 5 1 w d.2.length (d.2.map fun x => .int .u8 (x.toNat : Int))) /\ (∀ b, paint q.c v' k b ≠ 0 -> g < b) /\ (∀ x ∈ pm.x, okT x.2.2 = true /\ W'.heap[x.1]? = some (.cells x.2.1.toArray x.2.2 (0, 0))) := by
  have hlt := h.lt
  have hold := h.old
  have ne : ∀ b, some b = v.ownBlock -> g < b := fun b e => h.cg b (by rw [hc b e.symm]; exact hk)
  have other : ∀ (b : Nat) (o : Obj), W.heap[b]? = some o -> (∀ c, o ≠ Obj.cells c ND (0, 0)) -> W'.heap[b]? = W.heap[b]? := fun b o hb ho => by
    refine gr.block b (Array.getElem?_eq_some_iff.1 hb).1 fun e => ?_
    obtain ⟨c, hc'⟩ := own_tyD (n := n) hr b e.symm
    rw [hb] at hc'
    exact ho c (Option.some.inj hc')
  have row : ∀ {t : TypeId} {s m : Nat} {u : Value} {ys : List Value}, t ≠ ND -> W.ownsRow (g + 1) t s u m ys -> W'.ownsRow (g + 1) t s u m ys := fun ht hh => S.own_kept hh fun b e _ => by
    obtain ⟨c, hb⟩ := own_tyD (n := 0) hh b e
    exact other b _ hb (fun c' e' => by simp at e'; exact ht e'.2)
  refine ⟨?_, ?_, ?_, ?_, row (by decide) h.drow, ?_, row (by decide) h.brow, fun i d w hd hw => row (by decide) (h.bdat i d w hd hw), ?_, fun x hx => ⟨(h.ex x hx).1, (other _ _ (h.ex x hx).2 (fun c e => (okT_ne (h.ex x hx).1).1 (by simp only [Obj.cells.injEq] at e; exact e.2.1))).trans (h.ex x hx).2⟩⟩
  · rw [gr.block g hlt (fun e => by have := ne g e; omega)]; exact h.blk
  · refine h.bel.trans ⟨gr.os, gr.tape, gr.output, gr.size, fun k hk => gr.block k (by omega) (fun e => by have := ne k e; omega)⟩
  · exact h.known.kept (other _ _ h.known (fun c e => by simp at e))
  · exact h.prims.kept (other _ _ h.prims (fun c e => by simp at e))
  · intro i d w hd hw
    refine (h.dnv i d w hd hw).kept (fun b hb => ?_) (fun b hb => ?_)
    · exact (grew_keeps (c := q.c) (k := k) gr hc h.ns.lt b (by omega) (by omega)).1
    · exact ((grew_keeps (c := q.c) (k := k) gr hc h.ns.lt b (by omega) (by omega)).2).trans hb
  · intro b hb
    by_cases e : v'.ownBlock = some b
    · rcases gr.own with o | o
      · exact ne b (by rw [<- o]; exact e.symm)
      · have := o b e; omega
    · exact h.cg b (by simpa [paint, e] using hb)
theorem RS.addB {W0 : World} {pm : Px} {g : Nat} {e : Ps} {W W' : World} {r : Rd} {q : Rv} (h : RS W0 pm g e W r q) {v' tv ev : Value} {zs : Ys} {n : Nd} (hb : LN W q.c 2 q.bv r.body zs) (hn : ∀ (i : Nat) (n : Nd) (y : Value × Value), r.body[i]? = some n -> zs[i]? = some y -> NV W (fun b => q.c b = 1) y.1 n.th /\ NV W (fun b => q.c b = 1) y.2 n.el)
    (hr : W'.ownsRow 0 ND 9 v' (r.body.length + 1) (ncs r.body zs ++ ndc n tv ev)) (gr : S.Grew W W' q.bv v') (ht : NV W (fun b => q.c b = 1) tv n.th) (he : NV W (fun b => q.c b = 1) ev n.el) :
    RS W0 pm g e (W'.setCell ⟨g, 12, none⟩ v') { r with body := r.body ++ [n] } { q with bv := v', c := paint q.c v' 2 } := by
  obtain ⟨a1, a2, a3, a4, a5, a6, a7, a8, a9, a10⟩ := h.grewN hb.row hb.col (by omega) (by omega) gr
  have ho : ∀ b, b ≠ g -> (W'.setCell ⟨g, 12, none⟩ v').heap[b]? = W'.heap[b]? := fun b hb => heap_setCell_other W' ⟨g, 12, none⟩ b v' hb
  have hm := h.hmn
  have hp := h.hmp
  have hob : ∀ {t : TypeId} {s m : Nat} {u : Value} {xs : List Value}, W'.ownsRow (g + 1) t s u m xs -> (W'.setCell ⟨g, 12, none⟩ v').ownsRow (g + 1) t s u m xs := fun hh => S.own_kept hh (fun k e hk => ho k (by have := (hh.lt k e).1; omega))
  have hns := h.ns.addB hb hn hr gr ht he
  refine ⟨h.old, a2.setCell (p := ⟨g, 12, none⟩) h.old _, ?_, h.rest, a3.kept (ho _ (by omega)), a4.kept (ho _ (by omega)), hm, hp, h.mkp, hns.kept (fun b hb => ho b (by have := a9 b hb; omega)), a9, hob a5, h.dlen, fun i d w hd hw => (a6 i d w hd hw).kept (fun b hb => ho b (by have := a9 b (by omega); omega)) (fun _ hb => hb), hob a7, h.blen, fun i d w hd hw => hob (a8 i d w hd hw), ex_kept a10 a1 (by decide) (fun b _ hb => ho b hb)⟩
  exact heap_setCell_same W' g 12 _ _ v' a1
set_option maxHeartbeats 2000000
set_option maxRecDepth 100000
theorem RS.addT {W0 : World} {pm : Px} {g : Nat} {e : Ps} {W W' : World} {r : Rd} {q : Rv} (h : RS W0 pm g e W r q) {v' tv ev : Value} {zs : Ys} {n t : Nd} {y : Value × Value} {ob cap i : Nat} (hov : q.ov = .slice (some ⟨ob, 0, none⟩) r.opn.length cap) (hl : r.opn[i]? = some t) (hy : q.ys[i]? = some y)
  (hb : LN W q.c (4 + 2 * i) y.1 t.th zs) (hn : ∀ (i : Nat) (n : Nd) (y : Value × Value), t.th[i]? = some n -> zs[i]? = some y -> NV W (fun b => q.c b = 1) y.1 n.th /\ NV W (fun b => q.c b = 1) y.2 n.el)
  (hr : W'.ownsRow 0 ND 9 v' (t.th.length + 1) (ncs t.th zs ++ ndc n tv ev)) (gr : S.Grew W W' y.1 v') (ht : NV W (fun b => q.c b = 1) tv n.th) (he : NV W (fun b => q.c b = 1) ev n.el) :
  RS W0 pm g e (W'.setCell ⟨ob, i * 9 + 4, none⟩ v') { r with opn := r.opn.set i { t with th := t.th ++ [n] } } { q with ys := q.ys.set i (v', y.2), c := paint q.c v' (4 + 2 * i) } := by
 obtain ⟨a1, a2, a3, a4, a5, a6, a7, a8, a9, a10⟩ := h.grewN hb.row hb.col (by omega) (by omega) gr
 have hns0 := h.ns
 rw [hov] at hns0
 have hns := hns0.addT hl hy hb hn hr gr ht he
 have ho3 : q.c ob = 3 := hns0.ow.col ob rfl
 have hp3 : paint q.c v' (4 + 2 * i) ob = 3 := (grew_keeps gr hb.col hns0.lt ob (by omega) (by omega)).2.trans ho3
 have hgo : g < ob := h.cg ob (by omega)
 obtain ⟨co, hco⟩ := grew_ty gr hb.col hns0.ty hr ob (by omega)
 have ho : ∀ b, b ≠ ob -> (W'.setCell ⟨ob, i * 9 + 4, none⟩ v').heap[b]? = W'.heap[b]? := fun b hb => heap_setCell_other W' ⟨ob, i * 9 + 4, none⟩ b v' hb
 have hne : ∀ (b : Nat) (o : Obj), W'.heap[b]? = some o -> (∀ c, o ≠ Obj.cells c ND (0, 0)) -> b ≠ ob := fun b o hbo hh => by
  rintro rfl
  rw [hco] at hbo
  exact hh co (Option.some.inj hbo).symm
 have row : ∀ {ty : TypeId} {s m : Nat} {u : Value} {xs : List Value}, ty ≠ ND -> W'.ownsRow (g + 1) ty s u m xs -> (W'.setCell ⟨ob, i * 9 + 4, none⟩ v').ownsRow (g + 1) ty s u m xs := fun hty hh => S.own_kept hh fun b e _ => by
  obtain ⟨c, hb⟩ := own_tyD (n := 0) hh b e
  exact ho b (hne b _ hb (fun c' e' => by simp at e'; exact hty e'.2))
 refine ⟨h.old, a2.setCell (p := ⟨ob, i * 9 + 4, none⟩) (by show W0.heap.size <= ob; have := h.old; omega) _, ?_, h.rest, a3.kept (ho _ (hne _ _ a3 (fun c e => by simp at e))), a4.kept (ho _ (hne _ _ a4 (fun c e => by simp at e))), h.hmn, h.hmp, h.mkp, by rw [hov]; exact hns, a9, row (by decide) a5, h.dlen, fun i d w hd hw => (a6 i d w hd hw).kept (fun b hb => ho b (by rintro rfl; omega)) (fun _ hb => hb), row (by decide) a7, h.blen, fun i d w hd hw => row (by decide) (a8 i d w hd hw), ex_kept a10 hco (by decide) (fun b _ hb => ho b hb)⟩
 rw [ho g (by omega)]
 exact a1
theorem RS.addE {W0 : World} {pm : Px} {g : Nat} {e : Ps} {W W' : World} {r : Rd} {q : Rv} (h : RS W0 pm g e W r q) {v' tv ev : Value} {zs : Ys} {n t : Nd} {y : Value × Value} {ob cap i : Nat} (hov : q.ov = .slice (some ⟨ob, 0, none⟩) r.opn.length cap) (hl : r.opn[i]? = some t) (hy : q.ys[i]? = some y)
  (hb : LN W q.c (5 + 2 * i) y.2 t.el zs) (hn : ∀ (i : Nat) (n : Nd) (y : Value × Value), t.el[i]? = some n -> zs[i]? = some y -> NV W (fun b => q.c b = 1) y.1 n.th /\ NV W (fun b => q.c b = 1) y.2 n.el)
  (hr : W'.ownsRow 0 ND 9 v' (t.el.length + 1) (ncs t.el zs ++ ndc n tv ev)) (gr : S.Grew W W' y.2 v') (ht : NV W (fun b => q.c b = 1) tv n.th) (he : NV W (fun b => q.c b = 1) ev n.el) :
  RS W0 pm g e (W'.setCell ⟨ob, i * 9 + 5, none⟩ v') { r with opn := r.opn.set i { t with el := t.el ++ [n] } } { q with ys := q.ys.set i (y.1, v'), c := paint q.c v' (5 + 2 * i) } := by
 obtain ⟨a1, a2, a3, a4, a5, a6, a7, a8, a9, a10⟩ := h.grewN hb.row hb.col (by omega) (by omega) gr
 have hns0 := h.ns
 rw [hov] at hns0
 have hns := hns0.addE hl hy hb hn hr gr ht he
 have ho3 : q.c ob = 3 := hns0.ow.col ob rfl
 have hp3 : paint q.c v' (5 + 2 * i) ob = 3 := (grew_keeps gr hb.col hns0.lt ob (by omega) (by omega)).2.trans ho3
 have hgo : g < ob := h.cg ob (by omega)
 obtain ⟨co, hco⟩ := grew_ty gr hb.col hns0.ty hr ob (by omega)
 have ho : ∀ b, b ≠ ob -> (W'.setCell ⟨ob, i * 9 + 5, none⟩ v').heap[b]? = W'.heap[b]? := fun b hb => heap_setCell_other W' ⟨ob, i * 9 + 5, none⟩ b v' hb
 have hne : ∀ (b : Nat) (o : Obj), W'.heap[b]? = some o -> (∀ c, o ≠ Obj.cells c ND (0, 0)) -> b ≠ ob := fun b o hbo hh => by
  rintro rfl
  rw [hco] at hbo
  exact hh co (Option.some.inj hbo).symm
 have row : ∀ {ty : TypeId} {s m : Nat} {u : Value} {xs : List Value}, ty ≠ ND -> W'.ownsRow (g + 1) ty s u m xs -> (W'.setCell ⟨ob, i * 9 + 5, none⟩ v').ownsRow (g + 1) ty s u m xs := fun hty hh => S.own_kept hh fun b e _ => by
  obtain ⟨c, hb⟩ := own_tyD (n := 0) hh b e
  exact ho b (hne b _ hb (fun c' e' => by simp at e'; exact hty e'.2))
 refine ⟨h.old, a2.setCell (p := ⟨ob, i * 9 + 5, none⟩) (by show W0.heap.size <= ob; have := h.old; omega) _, ?_, h.rest, a3.kept (ho _ (hne _ _ a3 (fun c e => by simp at e))), a4.kept (ho _ (hne _ _ a4 (fun c e => by simp at e))), h.hmn, h.hmp, h.mkp, by rw [hov]; exact hns, a9, row (by decide) a5, h.dlen, fun i d w hd hw => (a6 i d w hd hw).kept (fun b hb => ho b (by rintro rfl; omega)) (fun _ hb => hb), row (by decide) a7, h.blen, fun i d w hd hw => row (by decide) (a8 i d w hd hw), ex_kept a10 hco (by decide) (fun b _ hb => ho b hb)⟩
 rw [ho g (by omega)]
 exact a1
set_option maxHeartbeats 4000000
set_option maxRecDepth 100000
def zN : Value := .agg #[.int .i64 0, .int .i64 0, .int .u16 0, .string ⟨#[]⟩, .slice none 0 0, .slice none 0 0, .bool false, .int .i64 0, .int .i64 0]
theorem infoN : (Tryz.prog.info? ND).map (fun i => (i.zero, i.size, i.bytes)) = some (some zN, 9, 112) := by kernel_rfl
theorem sizeN : (Tryz.prog.info? ND).map (·.size) = some 9 := by kernel_rfl
def zL : List Value := [.int .i64 0, .int .i64 0, .int .u16 0, .string ⟨#[]⟩, .slice none 0 0, .slice none 0 0, .bool false, .int .i64 0, .int .i64 0]
theorem cs_zero (W : World) : S.Cs (W.alloc (.cells #[.int .i64 0, .int .i64 0, .int .u16 0, .string ⟨#[]⟩, .slice none 0 0, .slice none 0 0, .bool false, .int .i64 0, .int .i64 0] ND)) (.slice (some ⟨W.heap.size, 0, none⟩) 1 1) 9 1 zL := by
  refine .inr ⟨⟨W.heap.size, 0, none⟩, 1, rfl, rfl, fun j v hj => ?_, fun v hv => ?_⟩
  · rw [Addr.add_lit, Nat.zero_add]
    exact S.cell_of _ _ _ zL ND v (heap_alloc_new W _) hj
  · simp only [zL, List.mem_cons, List.not_mem_nil, or_false] at hv
    rcases hv with rfl | rfl | rfl | rfl | rfl | rfl | rfl | rfl | rfl <;> rfl
theorem own_put {W : World} {g n cap : Nat} {xs zs cells : List Value} (h : W.ownsRow 0 ND 9 (.slice (some ⟨g, 0, none⟩) (n + 1) cap) (n + 1) (xs ++ zs)) (hx : xs.length = n * 9) (hz : zs.length = 9) (hc : cells.length = 9) :
    ∃ cur, W.heap[g]? = some (.cells cur ND (0, 0)) /\ n * 9 + 9 <= cur.size /\ (W.setRow g (cur.toList.take (n * 9) ++ cells ++ cur.toList.drop (n * 9 + 9)).toArray).ownsRow 0 ND 9 (.slice (some ⟨g, 0, none⟩) (n + 1) cap) (n + 1) (xs ++ cells) := by
  rcases h.2 with ⟨h', _⟩ | ⟨g', cap', cur, h', hb, hg, hnc, hcm, hcs, htake⟩
  · simp at h'
  · simp only [Value.slice.injEq, Option.some.injEq, Addr.mk.injEq, and_true, true_and] at h'
    obtain ⟨rfl, rfl⟩ := h'
    have hcl : cur.toList.length = cap * 9 := by simpa using hcs
    have hfit : n * 9 + 9 <= cap * 9 := by omega
    refine ⟨cur, hg, by omega, by rw [List.length_append, hx, hc]; omega, .inr ⟨g, cap, _, rfl, hb, setRow_heap W g _ _ ND _ hg, hnc, hcm, ?_, ?_⟩⟩
    · simp only [List.size_toArray, List.length_append, List.length_take, List.length_drop, hc]; omega
    · have e1 : cur.toList.take (n * 9) = xs := by
        have h1 : (cur.toList.take ((n + 1) * 9)).take (n * 9) = cur.toList.take (n * 9) := by rw [List.take_take, Nat.min_eq_left (by omega)]
        have h2 : (xs ++ zs).take (n * 9) = xs := by rw [<- hx]; exact List.take_left
        rw [<- h1, htake, h2]
      show List.take ((n + 1) * 9) (cur.toList.take (n * 9) ++ cells ++ cur.toList.drop (n * 9 + 9)) = _
      rw [e1, List.take_append, List.length_append, hx, hc, show (n + 1) * 9 - (n * 9 + 9) = 0 by omega, List.take_zero, List.append_nil, List.take_of_length_le (by rw [List.length_append, hx, hc]; omega)]
theorem add_body (W0 : World) (pm : Px) (g : Nat) (e : Ps) (W : World) (r : Rd) (q : Rv) (h : RS W0 pm g e W r q) (hop : r.opn = []) (hl : r.body.length <= 1000000) (n : Nd) (tv ev : Value) (ht : NV W (fun b => q.c b = 1) tv n.th) (he : NV W (fun b => q.c b = 1) ev n.el) :
    Calls Tryz.prog 144 #[.pointer (some ⟨g, 0, none⟩), .agg (ndc n tv ev).toArray] W fun en w' => en = .returned (.tuple #[]) /\ ∃ q', RS W0 pm g e w' { r with body := r.body ++ [n] } q' := by
  obtain ⟨p1, c1, rfl, _, _⟩ := ht.ex
  obtain ⟨p2, c2, rfl, _, _⟩ := he.ex
  obtain ⟨zs, hLN, hnn⟩ := id h.ns.bd
  obtain ⟨pb, cb, hbv⟩ : ∃ p c, q.bv = .slice p r.body.length c := by
    rcases hLN.val with ⟨e1, e2⟩ | ⟨g', cap, e1, _⟩
    · exact ⟨none, 0, by rw [e1, e2]; rfl⟩
    · exact ⟨_, _, e1⟩
  obtain ⟨po, co, hov⟩ : ∃ p c, q.ov = .slice p 0 c := by
    rcases h.ns.ow.val with ⟨e1, e2⟩ | ⟨g', cap, e1, _⟩
    · exact ⟨none, 0, e1⟩
    · rw [hop] at e1; exact ⟨_, _, e1⟩
  obtain ⟨W1, hW1⟩ : ∃ W1, W.alloc (.cells #[.int .i64 n.k, .int .i64 n.op, .int .u16 n.v, .string n.nm, .slice p1 n.th.length c1, .slice p2 n.el.length c2, .bool n.has, .int .i64 n.p.1, .int .i64 n.p.2] ND) = W1 := ⟨_, rfl⟩
  have hB : Below W.heap.size W W1 := by rw [<- hW1]; exact (Below.refl _ _).alloc (Nat.le_refl _) _
  have hbx : W1.heap[W.heap.size]? = some (.cells #[.int .i64 n.k, .int .i64 n.op, .int .u16 n.v, .string n.nm, .slice p1 n.th.length c1, .slice p2 n.el.length c2, .bool n.has, .int .i64 n.p.1, .int .i64 n.p.2] ND (0, 0)) := by rw [<- hW1]; exact heap_alloc_new W _
  have hgl := h.lt
  have hcl : ∀ b, q.c b ≠ 0 -> b < W.heap.size := h.ns.lt
  have hR := h.next hB
  obtain ⟨_, _, _, _, _, _, _, _, _, _, _, _, x12, x13, _⟩ := rd_cells hR.blk
  rw [hbv] at x12
  rw [hov] at x13
  obtain ⟨B1, hB1⟩ : ∃ B1, W.heap.size = B1 := ⟨_, rfl⟩
  rw [hB1] at hbx hcl hgl
  have HSX := hid (fun (w : World) (k1 : w.heap[g]? = some (.cells (rdc e r q).toArray RD (0, 0))) (k2 : w.heap[B1]? = some (.cells #[.int .i64 n.k, .int .i64 n.op, .int .u16 n.v, .string n.nm, .slice p1 n.th.length c1, .slice p2 n.el.length c2, .bool n.has, .int .i64 n.p.1, .int .i64 n.p.2] ND (0, 0))) => show (w.cell? ⟨g, 12, none⟩ = some (.slice pb r.body.length cb) /\ w.cell? ⟨B1, 0, none⟩ = some (.int .i64 n.k) /\ w.cell? ⟨B1, 1, none⟩ = some (.int .i64 n.op) /\ w.cell? ⟨B1, 2, none⟩ = some (.int .u16 n.v) /\ w.cell? ⟨B1, 3, none⟩ = some (.string n.nm) /\ w.cell? ⟨B1, 4, none⟩ = some (.slice p1 n.th.length c1) /\ w.cell? ⟨B1, 5, none⟩ = some (.slice p2 n.el.length c2) /\ w.cell? ⟨B1, 6, none⟩ = some (.bool n.has) /\ w.cell? ⟨B1, 7, none⟩ = some (.int .i64 n.p.1) /\ w.cell? ⟨B1, 8, none⟩ = some (.int .i64 n.p.2)) from ⟨by rw [<- hbv]; exact (rd_cells k1).2.2.2.2.2.2.2.2.2.2.2.2.1, S.cell_of w B1 0 [.int .i64 n.k, .int .i64 n.op, .int .u16 n.v, .string n.nm, .slice p1 n.th.length c1, .slice p2 n.el.length c2, .bool n.has, .int .i64 n.p.1, .int .i64 n.p.2] ND _ k2 rfl, S.cell_of w B1 1 [.int .i64 n.k, .int .i64 n.op, .int .u16 n.v, .string n.nm, .slice p1 n.th.length c1, .slice p2 n.el.length c2, .bool n.has, .int .i64 n.p.1, .int .i64 n.p.2] ND _ k2 rfl, S.cell_of w B1 2 [.int .i64 n.k, .int .i64 n.op, .int .u16 n.v, .string n.nm, .slice p1 n.th.length c1, .slice p2 n.el.length c2, .bool n.has, .int .i64 n.p.1, .int .i64 n.p.2] ND _ k2 rfl, S.cell_of w B1 3 [.int .i64 n.k, .int .i64 n.op, .int .u16 n.v, .string n.nm, .slice p1 n.th.length c1, .slice p2 n.el.length c2, .bool n.has, .int .i64 n.p.1, .int .i64 n.p.2] ND _ k2 rfl, S.cell_of w B1 4 [.int .i64 n.k, .int .i64 n.op, .int .u16 n.v, .string n.nm, .slice p1 n.th.length c1, .slice p2 n.el.length c2, .bool n.has, .int .i64 n.p.1, .int .i64 n.p.2] ND _ k2 rfl, S.cell_of w B1 5 [.int .i64 n.k, .int .i64 n.op, .int .u16 n.v, .string n.nm, .slice p1 n.th.length c1, .slice p2 n.el.length c2, .bool n.has, .int .i64 n.p.1, .int .i64 n.p.2] ND _ k2 rfl, S.cell_of w B1 6 [.int .i64 n.k, .int .i64 n.op, .int .u16 n.v, .string n.nm, .slice p1 n.th.length c1, .slice p2 n.el.length c2, .bool n.has, .int .i64 n.p.1, .int .i64 n.p.2] ND _ k2 rfl, S.cell_of w B1 7 [.int .i64 n.k, .int .i64 n.op, .int .u16 n.v, .string n.nm, .slice p1 n.th.length c1, .slice p2 n.el.length c2, .bool n.has, .int .i64 n.p.1, .int .i64 n.p.2] ND _ k2 rfl, S.cell_of w B1 8 [.int .i64 n.k, .int .i64 n.op, .int .u16 n.v, .string n.nm, .slice p1 n.th.length c1, .slice p2 n.el.length c2, .bool n.has, .int .i64 n.p.1, .int .i64 n.p.2] ND _ k2 rfl⟩)
  have HX := hid (And.intro hR (And.intro hbx (And.intro hLN (And.intro hnn (And.intro ht (And.intro he (And.intro hcl (And.intro hgl (And.intro hbv (And.intro hB h))))))))))
  have hw : wrap64 (r.body.length : Int) = (r.body.length : Int) := by unfold wrap64; omega
  clear hB hbx hR hLN hnn ht he h hop hcl hgl hbv hov
  unfold ndc
  go_enter Tryz.func144, Tryz.ntmps144
  go_upto_region 7 with fail
  try rw [hW1]
  try rw [hB1]
  clear x12 x13
  refine wp_region_drop [10] (S := fun wz : World => wz.cell? ⟨g, 12, none⟩ = some (.slice pb r.body.length cb) /\ wz.cell? ⟨B1, 0, none⟩ = some (.int .i64 n.k) /\ wz.cell? ⟨B1, 1, none⟩ = some (.int .i64 n.op) /\ wz.cell? ⟨B1, 2, none⟩ = some (.int .u16 n.v) /\ wz.cell? ⟨B1, 3, none⟩ = some (.string n.nm) /\ wz.cell? ⟨B1, 4, none⟩ = some (.slice p1 n.th.length c1) /\ wz.cell? ⟨B1, 5, none⟩ = some (.slice p2 n.el.length c2) /\ wz.cell? ⟨B1, 6, none⟩ = some (.bool n.has) /\ wz.cell? ⟨B1, 7, none⟩ = some (.int .i64 n.p.1) /\ wz.cell? ⟨B1, 8, none⟩ = some (.int .i64 n.p.2)) (by kernel_rfl) (HSX.out W1.drew HX.out.1.blk HX.out.2.1) (fun hHeld => ?_)
  obtain ⟨hR1, hbx1, hLN, hnn, ht, he, hcl, hgl, hbv, hB, h⟩ := HX.out
  have hBd : Below B1 W W1.drew := by rw [<- hB1]; exact ⟨hB.os, hB.tape, hB.output, hB.size, hB.block⟩
  have hbx : W1.drew.heap[B1]? = some (.cells #[.int .i64 n.k, .int .i64 n.op, .int .u16 n.v, .string n.nm, .slice p1 n.th.length c1, .slice p2 n.el.length c2, .bool n.has, .int .i64 n.p.1, .int .i64 n.p.2] ND (0, 0)) := hbx1
  clear HX hR1 hbx1 hB hW1
  generalize W1.drew = y0 at *
  refine D.zP (is := [0, 1]) ?_
  iterate 2
   refine D.yP (v := ?_) rfl (by kernel_rfl) (fun c a w h => h) (by rfl) ?_ (fun _ => hHeld) ?_
   rotate_left
   · (intro w hSw; clear hSw; go_simp; try with_reducible rfl)
   simp only [D.pts]
  refine D.eP ?_
  refine D.zT (is := [2, 3]) ?_
  iterate 2
   refine D.yT (v := ?_) rfl (by kernel_rfl) (fun c a w h => h) (by rfl) ?_ hHeld ?_
   rotate_left
   · (intro w hSw; (try dsimp only at hSw); go_simp; try with_reducible rfl)
   simp only [D.pts]
  refine D.eT ?_
  refine D.xP 4 (v := ?_) rfl (by kernel_rfl) (fun c a w h => h) (by rfl) ?_ (fun _ => hHeld) ?_
  rotate_left
  · (intro w hSw; clear hSw; go_simp; try with_reducible rfl)
  simp only [D.pts]
  obtain ⟨y1, hy1⟩ : ∃ y1, y0.alloc (.cells #[.int .i64 0, .int .i64 0, .int .u16 0, .string ⟨#[]⟩, .slice none 0 0, .slice none 0 0, .bool false, .int .i64 0, .int .i64 0] ND) = y1 := ⟨_, rfl⟩
  have hB01 : Below y0.heap.size y0 y1 := by rw [<- hy1]; exact (Below.refl _ _).alloc (Nat.le_refl _) _
  have hcs : S.Cs y1 (.slice (some ⟨y0.heap.size, 0, none⟩) 1 1) 9 1 zL := by rw [<- hy1]; exact cs_zero y0
  have hB1y : Below B1 W y1 := hBd.trans (hB01.mono (by have := (Array.getElem?_eq_some_iff.1 hbx).1; omega))
  have hBW : Below W.heap.size W y1 := by rw [hB1]; exact hB1y
  have hR := h.next hBW
  have hbx2 : y1.heap[B1]? = some (.cells #[.int .i64 n.k, .int .i64 n.op, .int .u16 n.v, .string n.nm, .slice p1 n.th.length c1, .slice p2 n.el.length c2, .bool n.has, .int .i64 n.p.1, .int .i64 n.p.2] ND (0, 0)) := (hB01.block _ (Array.getElem?_eq_some_iff.1 hbx).1).trans hbx
  have kq : ∀ k b, q.c b = k -> k ≠ 0 -> y1.heap[b]? = W.heap[b]? /\ q.c b = k := fun k b e hk => ⟨hBW.block b (by have := hcl b (by omega); omega), e⟩
  have hLN1 := hLN.move (fun b e => kq 2 b e (by omega))
  have nv1 : ∀ {v : Value} {l : List Nd}, NV W (fun b => q.c b = 1) v l -> NV y1 (fun b => q.c b = 1) v l := fun hh => hh.kept (fun b e => (kq 1 b e (by omega)).1) (fun _ hb => hb)
  refine wpD_ready (rs := [5]) (by kernel_rfl) (by simp) ?_
  refine AllD.cons rfl (fun K hK => ?_) AllD.nil
  go_simp
  try rw [hy1]
  refine hK.out _ _ (HSX.out _ hR.blk hbx2) (fun hHeld => ?_)
  clear hK K
  try simp only [D.pts]
  rw [hbv] at hLN1
  refine wpD_ready (rs := [6]) (by kernel_rfl) (by simp) ?_
  refine AllD.cons rfl (fun K hK => ?_) AllD.nil
  rw [if_pos (by rfl)]
  refine S.wp_append_row _ _ _ 40 ND zN 9 112 Tryz.underlying40 infoN rfl (by decide) rfl 0 _ r.body.length (ncs r.body zs) rfl hLN1.row _ 1 zL rfl hcs (by unfold S.room; omega) (by unfold maxLen; omega) (Nat.zero_le _) (fun v2 y2 r2 g2 => ?_)
  obtain ⟨b2, k2, hk2, hv2⟩ : ∃ b2 k2, r.body.length + 1 <= k2 /\ v2 = .slice (some ⟨b2, 0, none⟩) (r.body.length + 1) k2 := by
    rcases r2.2 with ⟨_, h0⟩ | ⟨g', c', cur, hv, _, _, hcap, _⟩
    · omega
    · exact ⟨g', c', hcap, hv⟩
  subst hv2
  have g2 : S.Grew y1 y2 q.bv (.slice (some ⟨b2, 0, none⟩) (r.body.length + 1) k2) := by rw [hbv]; exact g2
  rw [<- hbv] at hLN1
  obtain ⟨a1, a2, _⟩ := hR.grewN hLN1.row hLN1.col (by omega) (by omega) g2
  have hne1 : some B1 ≠ q.bv.ownBlock := fun e => by
    have := hcl B1 (by rw [hLN1.col B1 e.symm]; omega)
    omega
  have hbx3 : y2.heap[B1]? = some (.cells #[.int .i64 n.k, .int .i64 n.op, .int .u16 n.v, .string n.nm, .slice p1 n.th.length c1, .slice p2 n.el.length c2, .bool n.has, .int .i64 n.p.1, .int .i64 n.p.2] ND (0, 0)) := (g2.block B1 (Array.getElem?_eq_some_iff.1 hbx2).1 hne1).trans hbx2
  refine hK.out _ _ (HSX.out _ a1 hbx3) (fun hHeld => ?_)
  clear hK K
  try simp only [D.pts]
  obtain ⟨cur, hcur, hfit, hrow⟩ := own_put (cells := ndc n (.slice p1 n.th.length c1) (.slice p2 n.el.length c2)) r2 (ncs_len r.body zs hLN1.len) rfl rfl
  have hb2g : b2 ≠ g := by
    rintro rfl
    exact absurd (show RD = ND from congrArg (fun o : Option Obj => match o with | some (Obj.cells _ t _) => t | _ => 0) (a1.symm.trans hcur)) (by decide)
  have i1 : (r.body.length : Int) < (r.body.length : Int) + 1 := by omega
  have i2 : r.body.length < r.body.length + 1 := by omega
  refine D.zP (is := [7, 9]) ?_
  iterate 2
   refine D.yP (v := ?_) rfl (by kernel_rfl) (fun c a w h => h) (by rfl) ?_ (fun _ => hHeld) ?_
   rotate_left
   · (intro w hSw; clear hSw; go_simp; try with_reducible rfl)
   simp only [D.pts]
  refine D.eP ?_
  obtain ⟨ARR, hARR⟩ : ∃ ARR : Array Value, (cur.toList.take (r.body.length * 9) ++ ndc n (.slice p1 n.th.length c1) (.slice p2 n.el.length c2) ++ cur.toList.drop (r.body.length * 9 + 9)).toArray = ARR := ⟨_, rfl⟩
  rw [hARR] at hrow
  have hA2 : (cur.toList.take (r.body.length * 9) ++ (#[.int .i64 n.k, .int .i64 n.op, .int .u16 n.v, .string n.nm, .slice p1 n.th.length c1, .slice p2 n.el.length c2, .bool n.has, .int .i64 n.p.1, .int .i64 n.p.2] : Array Value).toList ++ cur.toList.drop (r.body.length * 9 + (#[.int .i64 n.k, .int .i64 n.op, .int .u16 n.v, .string n.nm, .slice p1 n.th.length c1, .slice p2 n.el.length c2, .bool n.has, .int .i64 n.p.1, .int .i64 n.p.2] : Array Value).size)).toArray = ARR := hARR
  have hG := grew_row (b1 := b2) g2 rfl ARR
  have hfin := hR.addB hLN1 (fun i m y hm hy => ⟨nv1 (hnn i m y hm hy).1, nv1 (hnn i m y hm hy).2⟩) hrow hG (nv1 ht) (nv1 he)
  have hB1b : B1 ≠ b2 := by
    rintro rfl
    rcases g2.own with o | o
    · exact hne1 (by rw [<- o]; rfl)
    · have := o B1 rfl
      have := (Array.getElem?_eq_some_iff.1 hbx2).1
      omega
  have s1 : (y2.setRow b2 ARR).heap[g]? = some (.cells (rdc e r q).toArray RD (0, 0)) := (setRow_other y2 b2 g ARR (Ne.symm hb2g)).trans a1
  have s2 : (y2.setRow b2 ARR).heap[B1]? = some (.cells #[.int .i64 n.k, .int .i64 n.op, .int .u16 n.v, .string n.nm, .slice p1 n.th.length c1, .slice p2 n.el.length c2, .bool n.has, .int .i64 n.p.1, .int .i64 n.p.2] ND (0, 0)) := (setRow_other y2 b2 B1 ARR hB1b).trans hbx3
  have h1c : ∀ v ∈ (#[.int .i64 n.k, .int .i64 n.op, .int .u16 n.v, .string n.nm, .slice p1 n.th.length c1, .slice p2 n.el.length c2, .bool n.has, .int .i64 n.p.1, .int .i64 n.p.2] : Array Value).toList, v.oneCell' = true := fun v hv => by
    simp only [List.mem_cons, List.not_mem_nil, or_false] at hv
    rcases hv with rfl | rfl | rfl | rfl | rfl | rfl | rfl | rfl | rfl <;> rfl
  have HF := hid hfin
  have HA := hid (And.intro hA2 (And.intro hcur (And.intro hfit (And.intro s1 (And.intro s2 a1)))))
  clear hfin hG hA2 hARR hrow s1 s2 hR hLN1 hLN hnn ht he hcs hy1 hB01 hB1y hBW hBd hbx hbx2 g2 r2 a2 hne1 hcl hgl h hcur a1
  refine wpD_ready (rs := [8, 10]) (by kernel_rfl) (by simp) ?_
  refine AllD.cons rfl (fun K hK => ?_) (AllD.late rfl (by kernel_rfl) (fun K hK => ?_))
  · rw [if_pos (by rfl)]
    refine wp_store_at ND (.tmp 41) (.tmp 37) rfl ND cur b2 (r.body.length * 9) HA.out.2.1 #[.int .i64 n.k, .int .i64 n.op, .int .u16 n.v, .string n.nm, .slice p1 n.th.length c1, .slice p2 n.el.length c2, .bool n.has, .int .i64 n.p.1, .int .i64 n.p.2] HA.out.2.2.1 rfl rfl sizeN h1c ?_
    rw [HA.out.1]
    refine hK.out _ _ (HSX.out _ HA.out.2.2.2.1 HA.out.2.2.2.2.1) (fun hHeld => ?_)
    clear hK K
    try simp only [D.pts]
    have k12 := (HSX.out _ HA.out.2.2.2.1 HA.out.2.2.2.2.1).1
    have f12 := S.frozen_of (y2.setRow b2 ARR) g 12 _ _ HA.out.2.2.2.1
    obtain ⟨y3, hy3⟩ : ∃ y3, y2.setRow b2 ARR = y3 := ⟨_, rfl⟩
    rw [hy3] at k12 f12 hHeld
    have HF3 := HF
    rw [hy3] at HF3
    try rw [hy3]
    clear hy3
    refine wpD_ready (rs := [10]) (by kernel_rfl) (by simp) ?_
    refine AllD.late rfl (by kernel_rfl) (fun K hK => ?_)
    go_simp
    refine hK.out _ _ ?_
    clear hK K
    try simp only [D.pts]
    refine wpD_done (by kernel_rfl) ?_ _
    clear k12 f12 hHeld
    go_wp2
    go_end0
    exact ⟨rfl, _, HF3.out⟩
  · have k12 := (HSX.out _ HA.out.2.2.2.2.2 hbx3).1
    have f12 := S.frozen_of y2 g 12 _ _ HA.out.2.2.2.2.2
    go_simp
    refine hK.out _ _ ?_
    clear hK K
    try simp only [D.pts]
    have hc4 : (y2.setCell ⟨g, 12, none⟩ (.slice (some ⟨b2, 0, none⟩) (r.body.length + 1) k2)).heap[b2]? = some (.cells cur ND (0, 0)) := (heap_setCell_other y2 ⟨g, 12, none⟩ b2 _ hb2g).trans HA.out.2.1
    refine wpD_ready (rs := [8]) (by kernel_rfl) (by simp) ?_
    refine AllD.late rfl (by kernel_rfl) (fun K hK => ?_)
    rw [if_pos (by rfl)]
    refine wp_store_at ND (.tmp 41) (.tmp 37) rfl ND cur b2 (r.body.length * 9) hc4 #[.int .i64 n.k, .int .i64 n.op, .int .u16 n.v, .string n.nm, .slice p1 n.th.length c1, .slice p2 n.el.length c2, .bool n.has, .int .i64 n.p.1, .int .i64 n.p.2] HA.out.2.2.1 rfl rfl sizeN h1c ?_
    rw [HA.out.1, row_cell y2 b2 g 12 ARR _ hb2g]
    refine hK.out _ _ ?_
    clear hK K
    try simp only [D.pts]
    refine wpD_done (by kernel_rfl) ?_ _
    clear k12 f12 hc4
    go_wp2
    go_end0
    exact ⟨rfl, _, HF.out⟩
set_option maxHeartbeats 4000000
set_option maxRecDepth 100000
theorem frz {W : World} {g : Nat} {c : Array Value} {t : TypeId} (h : W.heap[g]? = some (.cells c t (0, 0))) (j : Nat) : W.frozen? ⟨g, j, none⟩ = false := by simp [World.frozen?, h]
theorem add_T (W0 : World) (pm : Px) (g : Nat) (e : Ps) (W : World) (r : Rd) (q : Rv) (h : RS W0 pm g e W r q) (ob cap i : Nat) (t : Nd) (y : Value × Value) (hov : q.ov = .slice (some ⟨ob, 0, none⟩) r.opn.length cap) (hi : i + 1 = r.opn.length) (hot : r.opn[i]? = some t) (hoy : q.ys[i]? = some y) (hil : i < 1000000) (hha : t.has = false) (hk6 : ¬ t.k = 6) (hl : t.th.length <= 1000000) (n : Nd) (tv ev : Value) (ht : NV W (fun b => q.c b = 1) tv n.th) (he : NV W (fun b => q.c b = 1) ev n.el) :
  Calls Tryz.prog 144 #[.pointer (some ⟨g, 0, none⟩), .agg (ndc n tv ev).toArray] W fun en w' => en = .returned (.tuple #[]) /\ ∃ q', RS W0 pm g e w' { r with opn := r.opn.set i { t with th := t.th ++ [n] } } q' := by
 have Hha := hid hha
 clear hha
 obtain ⟨p1, c1, rfl, _, _⟩ := ht.ex
 obtain ⟨p2, c2, rfl, _, _⟩ := he.ex
 obtain ⟨zs, hLN, hnn⟩ := id (h.ns.lists i t y hot hoy).1
 obtain ⟨pb, cb, hbv⟩ : ∃ p c, y.1 = .slice p t.th.length c := by
  rcases hLN.val with ⟨e1, e2⟩ | ⟨g', cap, e1, _⟩
  ·exact ⟨none, 0, by rw [e1, e2]; rfl⟩
  ·exact ⟨_, _, e1⟩
 have hnO := h.ns.ow
 rw [hov] at hnO
 obtain ⟨W1, hW1⟩ : ∃ W1, W.alloc (.cells #[.int .i64 n.k, .int .i64 n.op, .int .u16 n.v, .string n.nm, .slice p1 n.th.length c1, .slice p2 n.el.length c2, .bool n.has, .int .i64 n.p.1, .int .i64 n.p.2] ND) = W1 := ⟨_, rfl⟩
 have hB : Below W.heap.size W W1 := by rw [<- hW1]; exact (Below.refl _ _).alloc (Nat.le_refl _) _
 have hbx : W1.heap[W.heap.size]? = some (.cells #[.int .i64 n.k, .int .i64 n.op, .int .u16 n.v, .string n.nm, .slice p1 n.th.length c1, .slice p2 n.el.length c2, .bool n.has, .int .i64 n.p.1, .int .i64 n.p.2] ND (0, 0)) := by rw [<- hW1]; exact heap_alloc_new W _
 have hcl : ∀ b, q.c b ≠ 0 -> b < W.heap.size := h.ns.lt
 have hoc : q.c ob = 3 := hnO.col ob rfl
 have hR := h.next hB
 have x13 := (rd_cells hR.blk).2.2.2.2.2.2.2.2.2.2.2.2.2.1
 rw [hov, <- hi] at x13
 obtain ⟨B1, hB1⟩ : ∃ B1, W.heap.size = B1 := ⟨_, rfl⟩
 rw [hB1] at hbx hcl
 have HSX := hid (fun (w : World) (k1 : w.heap[ob]? = W.heap[ob]?) (k2 : w.heap[B1]? = some (.cells #[.int .i64 n.k, .int .i64 n.op, .int .u16 n.v, .string n.nm, .slice p1 n.th.length c1, .slice p2 n.el.length c2, .bool n.has, .int .i64 n.p.1, .int .i64 n.p.2] ND (0, 0))) => show (w.cell? ⟨ob, i * 9 + 4, none⟩ = some (.slice pb t.th.length cb) /\ w.cell? ⟨B1, 0, none⟩ = some (.int .i64 n.k) /\ w.cell? ⟨B1, 1, none⟩ = some (.int .i64 n.op) /\ w.cell? ⟨B1, 2, none⟩ = some (.int .u16 n.v) /\ w.cell? ⟨B1, 3, none⟩ = some (.string n.nm) /\ w.cell? ⟨B1, 4, none⟩ = some (.slice p1 n.th.length c1) /\ w.cell? ⟨B1, 5, none⟩ = some (.slice p2 n.el.length c2) /\ w.cell? ⟨B1, 6, none⟩ = some (.bool n.has) /\ w.cell? ⟨B1, 7, none⟩ = some (.int .i64 n.p.1) /\ w.cell? ⟨B1, 8, none⟩ = some (.int .i64 n.p.2)) from ⟨by rw [<- hbv]; exact (World.cell?_of_block (w := W) (a := ⟨ob, i * 9 + 4, none⟩) k1).trans (hnO.cell i t y hot hoy 4 _ rfl), S.cell_of w B1 0 [.int .i64 n.k, .int .i64 n.op, .int .u16 n.v, .string n.nm, .slice p1 n.th.length c1, .slice p2 n.el.length c2, .bool n.has, .int .i64 n.p.1, .int .i64 n.p.2] ND _ k2 rfl, S.cell_of w B1 1 [.int .i64 n.k, .int .i64 n.op, .int .u16 n.v, .string n.nm, .slice p1 n.th.length c1, .slice p2 n.el.length c2, .bool n.has, .int .i64 n.p.1, .int .i64 n.p.2] ND _ k2 rfl, S.cell_of w B1 2 [.int .i64 n.k, .int .i64 n.op, .int .u16 n.v, .string n.nm, .slice p1 n.th.length c1, .slice p2 n.el.length c2, .bool n.has, .int .i64 n.p.1, .int .i64 n.p.2] ND _ k2 rfl, S.cell_of w B1 3 [.int .i64 n.k, .int .i64 n.op, .int .u16 n.v, .string n.nm, .slice p1 n.th.length c1, .slice p2 n.el.length c2, .bool n.has, .int .i64 n.p.1, .int .i64 n.p.2] ND _ k2 rfl, S.cell_of w B1 4 [.int .i64 n.k, .int .i64 n.op, .int .u16 n.v, .string n.nm, .slice p1 n.th.length c1, .slice p2 n.el.length c2, .bool n.has, .int .i64 n.p.1, .int .i64 n.p.2] ND _ k2 rfl, S.cell_of w B1 5 [.int .i64 n.k, .int .i64 n.op, .int .u16 n.v, .string n.nm, .slice p1 n.th.length c1, .slice p2 n.el.length c2, .bool n.has, .int .i64 n.p.1, .int .i64 n.p.2] ND _ k2 rfl, S.cell_of w B1 6 [.int .i64 n.k, .int .i64 n.op, .int .u16 n.v, .string n.nm, .slice p1 n.th.length c1, .slice p2 n.el.length c2, .bool n.has, .int .i64 n.p.1, .int .i64 n.p.2] ND _ k2 rfl, S.cell_of w B1 7 [.int .i64 n.k, .int .i64 n.op, .int .u16 n.v, .string n.nm, .slice p1 n.th.length c1, .slice p2 n.el.length c2, .bool n.has, .int .i64 n.p.1, .int .i64 n.p.2] ND _ k2 rfl, S.cell_of w B1 8 [.int .i64 n.k, .int .i64 n.op, .int .u16 n.v, .string n.nm, .slice p1 n.th.length c1, .slice p2 n.el.length c2, .bool n.has, .int .i64 n.p.1, .int .i64 n.p.2] ND _ k2 rfl⟩)
 have HCK := hid (fun (w : World) (k1 : w.heap[ob]? = W.heap[ob]?) => show (w.cell? ⟨ob, i * 9, none⟩ = some (.int .i64 t.k) /\ w.cell? ⟨ob, i * 9 + 6, none⟩ = some (.bool t.has)) from ⟨(World.cell?_of_block (w := W) (a := ⟨ob, i * 9, none⟩) k1).trans (hnO.cell i t y hot hoy 0 _ rfl), (World.cell?_of_block (w := W) (a := ⟨ob, i * 9 + 6, none⟩) k1).trans (hnO.cell i t y hot hoy 6 _ rfl)⟩)
 have htop := top_any g ob cap i hil W1 x13
 have HX := hid (And.intro hbx (And.intro hLN (And.intro hnn (And.intro ht (And.intro he (And.intro hcl (And.intro hbv (And.intro hB (And.intro h (And.intro hov (And.intro hot (And.intro hoy (And.intro hoc hi)))))))))))))
 have j1 : (0 : Int) < ((i + 1 : Nat) : Int) := by omega
 have j2 : (0 : Nat) < i + 1 := by omega
 have hw : wrap64 (t.th.length : Int) = (t.th.length : Int) := by unfold wrap64; omega
 obtain ⟨n1, hn1⟩ : ∃ n1 : Nat, i + 1 = n1 := ⟨_, rfl⟩
 rw [hn1] at x13 j1 j2
 clear hB hbx hR hLN hnn ht he h hcl hbv hov hot hoy hnO hoc hi hn1
 unfold ndc
 go_enter Tryz.func144, Tryz.ntmps144
 go_wp2_with fail
 try rw [hW1]
 refine htop.mono ?_
 rintro e' w2 ⟨rfl, hb2⟩
 obtain ⟨hbx, hLN, hnn, ht, he, hcl, hbv, hB, h, hov, hot, hoy, hoc, hi⟩ := HX.out
 have hBw : Below B1 W w2 := by rw [<- hB1]; exact hB.trans (hb2.mono hB.size)
 have hbw : w2.heap[B1]? = some (.cells #[.int .i64 n.k, .int .i64 n.op, .int .u16 n.v, .string n.nm, .slice p1 n.th.length c1, .slice p2 n.el.length c2, .bool n.has, .int .i64 n.p.1, .int .i64 n.p.2] ND (0, 0)) := (hb2.block _ (Array.getElem?_eq_some_iff.1 hbx).1).trans hbx
 have hobl : ob < B1 := hcl ob (by omega)
 have hob2 : w2.heap[ob]? = W.heap[ob]? := hBw.block ob hobl
 obtain ⟨ck, ch⟩ := HCK.out w2 hob2
 rw [Hha.out] at ch
 have hkb : (t.k == 6) = false := by simpa using hk6
 have HX2 := hid (And.intro hbw (And.intro hLN (And.intro hnn (And.intro ht (And.intro he (And.intro hcl (And.intro hbv (And.intro hBw (And.intro h (And.intro hov (And.intro hot (And.intro hoy (And.intro hoc (And.intro hi (And.intro hobl hob2)))))))))))))))
 clear HX htop x13 hb2 hbx hLN hnn ht he hcl hbv hB h hov hot hoy hoc hi hBw hbw hobl hob2 hW1
 go_upto_region 7 with fail
 try rw [hB1]
 clear ck ch
 obtain ⟨hbx1, hLN, hnn, ht, he, hcl, hbv, hBd1, h, hov, hot, hoy, hoc, hi, hobl, hob2⟩ := HX2.out
 refine wp_region_drop [10] (S := fun wz : World => wz.cell? ⟨ob, i * 9 + 4, none⟩ = some (.slice pb t.th.length cb) /\ wz.cell? ⟨B1, 0, none⟩ = some (.int .i64 n.k) /\ wz.cell? ⟨B1, 1, none⟩ = some (.int .i64 n.op) /\ wz.cell? ⟨B1, 2, none⟩ = some (.int .u16 n.v) /\ wz.cell? ⟨B1, 3, none⟩ = some (.string n.nm) /\ wz.cell? ⟨B1, 4, none⟩ = some (.slice p1 n.th.length c1) /\ wz.cell? ⟨B1, 5, none⟩ = some (.slice p2 n.el.length c2) /\ wz.cell? ⟨B1, 6, none⟩ = some (.bool n.has) /\ wz.cell? ⟨B1, 7, none⟩ = some (.int .i64 n.p.1) /\ wz.cell? ⟨B1, 8, none⟩ = some (.int .i64 n.p.2)) (by kernel_rfl) (HSX.out w2.drew hob2 hbx1) (fun hHeld => ?_)
 have hBd : Below B1 W w2.drew := ⟨hBd1.os, hBd1.tape, hBd1.output, hBd1.size, hBd1.block⟩
 have hbx : w2.drew.heap[B1]? = some (.cells #[.int .i64 n.k, .int .i64 n.op, .int .u16 n.v, .string n.nm, .slice p1 n.th.length c1, .slice p2 n.el.length c2, .bool n.has, .int .i64 n.p.1, .int .i64 n.p.2] ND (0, 0)) := hbx1
 clear HX2 hbx1 hBd1 hob2
 generalize w2.drew = y0 at *
 refine D.zP (is := [0, 1]) ?_
 iterate 2
  refine D.yP (v := ?_) rfl (by kernel_rfl) (fun c a w h => h) (by rfl) ?_ (fun _ => hHeld) ?_
  rotate_left
  ·(intro w hSw; clear hSw; go_simp; try with_reducible rfl)
  simp only [D.pts]
 refine D.eP ?_
 refine D.zT (is := [2, 3]) ?_
 iterate 2
  refine D.yT (v := ?_) rfl (by kernel_rfl) (fun c a w h => h) (by rfl) ?_ hHeld ?_
  rotate_left
  ·(intro w hSw; (try dsimp only at hSw); go_simp; try with_reducible rfl)
  simp only [D.pts]
 refine D.eT ?_
 refine D.xP 4 (v := ?_) rfl (by kernel_rfl) (fun c a w h => h) (by rfl) ?_ (fun _ => hHeld) ?_
 rotate_left
 ·(intro w hSw; clear hSw; go_simp; try with_reducible rfl)
 simp only [D.pts]
 obtain ⟨y1, hy1⟩ : ∃ y1, y0.alloc (.cells #[.int .i64 0, .int .i64 0, .int .u16 0, .string ⟨#[]⟩, .slice none 0 0, .slice none 0 0, .bool false, .int .i64 0, .int .i64 0] ND) = y1 := ⟨_, rfl⟩
 have hB01 : Below y0.heap.size y0 y1 := by rw [<- hy1]; exact (Below.refl _ _).alloc (Nat.le_refl _) _
 have hcs : S.Cs y1 (.slice (some ⟨y0.heap.size, 0, none⟩) 1 1) 9 1 zL := by rw [<- hy1]; exact cs_zero y0
 have hB1y : Below B1 W y1 := hBd.trans (hB01.mono (by have := (Array.getElem?_eq_some_iff.1 hbx).1; omega))
 have hBW : Below W.heap.size W y1 := by rw [hB1]; exact hB1y
 have hR := h.next hBW
 have hbx2 : y1.heap[B1]? = some (.cells #[.int .i64 n.k, .int .i64 n.op, .int .u16 n.v, .string n.nm, .slice p1 n.th.length c1, .slice p2 n.el.length c2, .bool n.has, .int .i64 n.p.1, .int .i64 n.p.2] ND (0, 0)) := (hB01.block _ (Array.getElem?_eq_some_iff.1 hbx).1).trans hbx
 have kq : ∀ k b, q.c b = k -> k ≠ 0 -> y1.heap[b]? = W.heap[b]? /\ q.c b = k := fun k b e hk => ⟨hB1y.block b (hcl b (by omega)), e⟩
 have hLN1 := hLN.move (fun b e => kq (4 + 2 * i) b e (by omega))
 have nv1 : ∀ {v : Value} {l : List Nd}, NV W (fun b => q.c b = 1) v l -> NV y1 (fun b => q.c b = 1) v l := fun hh => hh.kept (fun b e => (kq 1 b e (by omega)).1) (fun _ hb => hb)
 refine wpD_ready (rs := [5]) (by kernel_rfl) (by simp) ?_
 refine AllD.cons rfl (fun K hK => ?_) AllD.nil
 go_simp
 try rw [hy1]
 refine hK.out _ _ (HSX.out _ (kq 3 ob hoc (by omega)).1 hbx2) (fun hHeld => ?_)
 clear hK K
 try simp only [D.pts]
 rw [hbv] at hLN1
 refine wpD_ready (rs := [6]) (by kernel_rfl) (by simp) ?_
 refine AllD.cons rfl (fun K hK => ?_) AllD.nil
 rw [if_pos (by rfl)]
 refine S.wp_append_row _ _ _ 40 ND zN 9 112 Tryz.underlying40 infoN rfl (by decide) rfl 0 _ t.th.length (ncs t.th zs) rfl hLN1.row _ 1 zL rfl hcs (by unfold S.room; omega) (by unfold maxLen; omega) (Nat.zero_le _) (fun v2 y2 r2 g2 => ?_)
 obtain ⟨b2, k2, hk2, hv2⟩ : ∃ b2 k2, t.th.length + 1 <= k2 /\ v2 = .slice (some ⟨b2, 0, none⟩) (t.th.length + 1) k2 := by
  rcases r2.2 with ⟨_, h0⟩ | ⟨g', c', cur, hv, _, _, hcap, _⟩
  ·omega
  ·exact ⟨g', c', hcap, hv⟩
 subst hv2
 have g3 : S.Grew y1 y2 y.1 (.slice (some ⟨b2, 0, none⟩) (t.th.length + 1) k2) := by rw [hbv]; exact g2
 clear g2
 rw [<- hbv] at hLN1
 have hob3 : y2.heap[ob]? = W.heap[ob]? := (grew_keeps g3 hLN1.col hR.ns.lt ob (by omega) (by omega)).1.trans (kq 3 ob hoc (by omega)).1
 have hne1 : some B1 ≠ (y.1).ownBlock := fun e => by
  have := hcl B1 (by rw [hLN1.col B1 e.symm]; omega)
  omega
 have hbx3 : y2.heap[B1]? = some (.cells #[.int .i64 n.k, .int .i64 n.op, .int .u16 n.v, .string n.nm, .slice p1 n.th.length c1, .slice p2 n.el.length c2, .bool n.has, .int .i64 n.p.1, .int .i64 n.p.2] ND (0, 0)) := (g3.block B1 (Array.getElem?_eq_some_iff.1 hbx2).1 hne1).trans hbx2
 refine hK.out _ _ (HSX.out _ hob3 hbx3) (fun hHeld => ?_)
 clear hK K
 try simp only [D.pts]
 obtain ⟨cur, hcur, hfit, hrow⟩ := own_put (cells := ndc n (.slice p1 n.th.length c1) (.slice p2 n.el.length c2)) r2 (ncs_len t.th zs hLN1.len) rfl rfl
 have hb2g : b2 ≠ ob := by
  rintro rfl
  rcases g3.own with o | o
  ·have := hLN1.col b2 (by rw [<- o]; rfl)
   omega
  ·have := o b2 rfl
   have := hR.ns.lt b2 (by omega)
   omega
 obtain ⟨co, hco⟩ : ∃ co, y2.heap[ob]? = some (.cells co ND (0, 0)) := by rw [hob3]; exact h.ns.ty ob (by omega)
 have i1 : (t.th.length : Int) < (t.th.length : Int) + 1 := by omega
 have i2 : t.th.length < t.th.length + 1 := by omega
 refine D.zP (is := [7, 9]) ?_
 iterate 2
  refine D.yP (v := ?_) rfl (by kernel_rfl) (fun c a w h => h) (by rfl) ?_ (fun _ => hHeld) ?_
  rotate_left
  ·(intro w hSw; clear hSw; go_simp; try with_reducible rfl)
  simp only [D.pts]
 refine D.eP ?_
 obtain ⟨ARR, hARR⟩ : ∃ ARR : Array Value, (cur.toList.take (t.th.length * 9) ++ ndc n (.slice p1 n.th.length c1) (.slice p2 n.el.length c2) ++ cur.toList.drop (t.th.length * 9 + 9)).toArray = ARR := ⟨_, rfl⟩
 rw [hARR] at hrow
 have hA2 : (cur.toList.take (t.th.length * 9) ++ (#[.int .i64 n.k, .int .i64 n.op, .int .u16 n.v, .string n.nm, .slice p1 n.th.length c1, .slice p2 n.el.length c2, .bool n.has, .int .i64 n.p.1, .int .i64 n.p.2] : Array Value).toList ++ cur.toList.drop (t.th.length * 9 + (#[.int .i64 n.k, .int .i64 n.op, .int .u16 n.v, .string n.nm, .slice p1 n.th.length c1, .slice p2 n.el.length c2, .bool n.has, .int .i64 n.p.1, .int .i64 n.p.2] : Array Value).size)).toArray = ARR := hARR
 have hG := grew_row (b1 := b2) g3 rfl ARR
 have hfin := hR.addT hov hot hoy hLN1 (fun i m y hm hy => ⟨nv1 (hnn i m y hm hy).1, nv1 (hnn i m y hm hy).2⟩) hrow hG (nv1 ht) (nv1 he)
 have hB1b : B1 ≠ b2 := by
  rintro rfl
  rcases g3.own with o | o
  ·exact hne1 (by rw [<- o]; rfl)
  ·have := o B1 rfl
   have := (Array.getElem?_eq_some_iff.1 hbx2).1
   omega
 have s1 : (y2.setRow b2 ARR).heap[ob]? = W.heap[ob]? := (setRow_other y2 b2 ob ARR (Ne.symm hb2g)).trans hob3
 have s2 : (y2.setRow b2 ARR).heap[B1]? = some (.cells #[.int .i64 n.k, .int .i64 n.op, .int .u16 n.v, .string n.nm, .slice p1 n.th.length c1, .slice p2 n.el.length c2, .bool n.has, .int .i64 n.p.1, .int .i64 n.p.2] ND (0, 0)) := (setRow_other y2 b2 B1 ARR hB1b).trans hbx3
 have s3 : (y2.setRow b2 ARR).heap[ob]? = some (.cells co ND (0, 0)) := (setRow_other y2 b2 ob ARR (Ne.symm hb2g)).trans hco
 have h1c : ∀ v ∈ (#[.int .i64 n.k, .int .i64 n.op, .int .u16 n.v, .string n.nm, .slice p1 n.th.length c1, .slice p2 n.el.length c2, .bool n.has, .int .i64 n.p.1, .int .i64 n.p.2] : Array Value).toList, v.oneCell' = true := fun v hv => by
  simp only [List.mem_cons, List.not_mem_nil, or_false] at hv
  rcases hv with rfl | rfl | rfl | rfl | rfl | rfl | rfl | rfl | rfl <;> rfl
 have HF := hid hfin
 have HA := hid (And.intro hA2 (And.intro hcur (And.intro hfit (And.intro s1 (And.intro s2 (And.intro s3 (And.intro hob3 hco)))))))
 clear hfin hG hA2 hARR hrow s1 s2 s3 hR hLN1 hLN hnn ht he hcs hy1 hB01 hB1y hBW hBd hbx hbx2 g3 r2 hne1 hcl h hcur hob3 hco hov hot hoy hoc hi hobl
 refine wpD_ready (rs := [8, 10]) (by kernel_rfl) (by simp) ?_
 refine AllD.cons rfl (fun K hK => ?_) (AllD.late rfl (by kernel_rfl) (fun K hK => ?_))
 ·rw [if_pos (by rfl)]
  refine wp_store_at ND (.tmp 41) (.tmp 37) rfl ND cur b2 (t.th.length * 9) HA.out.2.1 #[.int .i64 n.k, .int .i64 n.op, .int .u16 n.v, .string n.nm, .slice p1 n.th.length c1, .slice p2 n.el.length c2, .bool n.has, .int .i64 n.p.1, .int .i64 n.p.2] HA.out.2.2.1 rfl rfl sizeN h1c ?_
  rw [HA.out.1]
  refine hK.out _ _ (HSX.out _ HA.out.2.2.2.1 HA.out.2.2.2.2.1) (fun hHeld => ?_)
  clear hK K
  try simp only [D.pts]
  have k12 := (HSX.out _ HA.out.2.2.2.1 HA.out.2.2.2.2.1).1
  have f12 := frz HA.out.2.2.2.2.2.1 (i * 9 + 4)
  obtain ⟨y3, hy3⟩ : ∃ y3, y2.setRow b2 ARR = y3 := ⟨_, rfl⟩
  rw [hy3] at k12 f12 hHeld
  have HF3 := HF
  rw [hy3] at HF3
  try rw [hy3]
  clear hy3
  refine wpD_ready (rs := [10]) (by kernel_rfl) (by simp) ?_
  refine AllD.late rfl (by kernel_rfl) (fun K hK => ?_)
  go_simp
  refine hK.out _ _ ?_
  clear hK K
  try simp only [D.pts]
  refine wpD_done (by kernel_rfl) ?_ _
  clear k12 f12 hHeld
  go_wp2
  go_end0
  exact ⟨rfl, _, HF3.out⟩
 ·have k12 := (HSX.out _ HA.out.2.2.2.2.2.2.1 hbx3).1
  have f12 := frz HA.out.2.2.2.2.2.2.2 (i * 9 + 4)
  go_simp
  refine hK.out _ _ ?_
  clear hK K
  try simp only [D.pts]
  have hc4 : (y2.setCell ⟨ob, i * 9 + 4, none⟩ (.slice (some ⟨b2, 0, none⟩) (t.th.length + 1) k2)).heap[b2]? = some (.cells cur ND (0, 0)) := (heap_setCell_other y2 ⟨ob, i * 9 + 4, none⟩ b2 _ hb2g).trans HA.out.2.1
  refine wpD_ready (rs := [8]) (by kernel_rfl) (by simp) ?_
  refine AllD.late rfl (by kernel_rfl) (fun K hK => ?_)
  rw [if_pos (by rfl)]
  refine wp_store_at ND (.tmp 41) (.tmp 37) rfl ND cur b2 (t.th.length * 9) hc4 #[.int .i64 n.k, .int .i64 n.op, .int .u16 n.v, .string n.nm, .slice p1 n.th.length c1, .slice p2 n.el.length c2, .bool n.has, .int .i64 n.p.1, .int .i64 n.p.2] HA.out.2.2.1 rfl rfl sizeN h1c ?_
  rw [HA.out.1, row_cell y2 b2 ob (i * 9 + 4) ARR _ hb2g]
  refine hK.out _ _ ?_
  clear hK K
  try simp only [D.pts]
  refine wpD_done (by kernel_rfl) ?_ _
  clear k12 f12 hc4
  go_wp2
  go_end0
  exact ⟨rfl, _, HF.out⟩
theorem add_E1 (W0 : World) (pm : Px) (g : Nat) (e : Ps) (W : World) (r : Rd) (q : Rv) (h : RS W0 pm g e W r q) (ob cap i : Nat) (t : Nd) (y : Value × Value) (hov : q.ov = .slice (some ⟨ob, 0, none⟩) r.opn.length cap) (hi : i + 1 = r.opn.length) (hot : r.opn[i]? = some t) (hoy : q.ys[i]? = some y) (hil : i < 1000000) (hha : t.has = true) (hl : t.el.length <= 1000000) (n : Nd) (tv ev : Value) (ht : NV W (fun b => q.c b = 1) tv n.th) (he : NV W (fun b => q.c b = 1) ev n.el) :
  Calls Tryz.prog 144 #[.pointer (some ⟨g, 0, none⟩), .agg (ndc n tv ev).toArray] W fun en w' => en = .returned (.tuple #[]) /\ ∃ q', RS W0 pm g e w' { r with opn := r.opn.set i { t with el := t.el ++ [n] } } q' := by
 have Hha := hid hha
 clear hha
 obtain ⟨p1, c1, rfl, _, _⟩ := ht.ex
 obtain ⟨p2, c2, rfl, _, _⟩ := he.ex
 obtain ⟨zs, hLN, hnn⟩ := id (h.ns.lists i t y hot hoy).2
 obtain ⟨pb, cb, hbv⟩ : ∃ p c, y.2 = .slice p t.el.length c := by
  rcases hLN.val with ⟨e1, e2⟩ | ⟨g', cap, e1, _⟩
  ·exact ⟨none, 0, by rw [e1, e2]; rfl⟩
  ·exact ⟨_, _, e1⟩
 have hnO := h.ns.ow
 rw [hov] at hnO
 obtain ⟨W1, hW1⟩ : ∃ W1, W.alloc (.cells #[.int .i64 n.k, .int .i64 n.op, .int .u16 n.v, .string n.nm, .slice p1 n.th.length c1, .slice p2 n.el.length c2, .bool n.has, .int .i64 n.p.1, .int .i64 n.p.2] ND) = W1 := ⟨_, rfl⟩
 have hB : Below W.heap.size W W1 := by rw [<- hW1]; exact (Below.refl _ _).alloc (Nat.le_refl _) _
 have hbx : W1.heap[W.heap.size]? = some (.cells #[.int .i64 n.k, .int .i64 n.op, .int .u16 n.v, .string n.nm, .slice p1 n.th.length c1, .slice p2 n.el.length c2, .bool n.has, .int .i64 n.p.1, .int .i64 n.p.2] ND (0, 0)) := by rw [<- hW1]; exact heap_alloc_new W _
 have hcl : ∀ b, q.c b ≠ 0 -> b < W.heap.size := h.ns.lt
 have hoc : q.c ob = 3 := hnO.col ob rfl
 have hR := h.next hB
 have x13 := (rd_cells hR.blk).2.2.2.2.2.2.2.2.2.2.2.2.2.1
 rw [hov, <- hi] at x13
 obtain ⟨B1, hB1⟩ : ∃ B1, W.heap.size = B1 := ⟨_, rfl⟩
 rw [hB1] at hbx hcl
 have HSX := hid (fun (w : World) (k1 : w.heap[ob]? = W.heap[ob]?) (k2 : w.heap[B1]? = some (.cells #[.int .i64 n.k, .int .i64 n.op, .int .u16 n.v, .string n.nm, .slice p1 n.th.length c1, .slice p2 n.el.length c2, .bool n.has, .int .i64 n.p.1, .int .i64 n.p.2] ND (0, 0))) => show (w.cell? ⟨ob, i * 9 + 5, none⟩ = some (.slice pb t.el.length cb) /\ w.cell? ⟨B1, 0, none⟩ = some (.int .i64 n.k) /\ w.cell? ⟨B1, 1, none⟩ = some (.int .i64 n.op) /\ w.cell? ⟨B1, 2, none⟩ = some (.int .u16 n.v) /\ w.cell? ⟨B1, 3, none⟩ = some (.string n.nm) /\ w.cell? ⟨B1, 4, none⟩ = some (.slice p1 n.th.length c1) /\ w.cell? ⟨B1, 5, none⟩ = some (.slice p2 n.el.length c2) /\ w.cell? ⟨B1, 6, none⟩ = some (.bool n.has) /\ w.cell? ⟨B1, 7, none⟩ = some (.int .i64 n.p.1) /\ w.cell? ⟨B1, 8, none⟩ = some (.int .i64 n.p.2)) from ⟨by rw [<- hbv]; exact (World.cell?_of_block (w := W) (a := ⟨ob, i * 9 + 5, none⟩) k1).trans (hnO.cell i t y hot hoy 5 _ rfl), S.cell_of w B1 0 [.int .i64 n.k, .int .i64 n.op, .int .u16 n.v, .string n.nm, .slice p1 n.th.length c1, .slice p2 n.el.length c2, .bool n.has, .int .i64 n.p.1, .int .i64 n.p.2] ND _ k2 rfl, S.cell_of w B1 1 [.int .i64 n.k, .int .i64 n.op, .int .u16 n.v, .string n.nm, .slice p1 n.th.length c1, .slice p2 n.el.length c2, .bool n.has, .int .i64 n.p.1, .int .i64 n.p.2] ND _ k2 rfl, S.cell_of w B1 2 [.int .i64 n.k, .int .i64 n.op, .int .u16 n.v, .string n.nm, .slice p1 n.th.length c1, .slice p2 n.el.length c2, .bool n.has, .int .i64 n.p.1, .int .i64 n.p.2] ND _ k2 rfl, S.cell_of w B1 3 [.int .i64 n.k, .int .i64 n.op, .int .u16 n.v, .string n.nm, .slice p1 n.th.length c1, .slice p2 n.el.length c2, .bool n.has, .int .i64 n.p.1, .int .i64 n.p.2] ND _ k2 rfl, S.cell_of w B1 4 [.int .i64 n.k, .int .i64 n.op, .int .u16 n.v, .string n.nm, .slice p1 n.th.length c1, .slice p2 n.el.length c2, .bool n.has, .int .i64 n.p.1, .int .i64 n.p.2] ND _ k2 rfl, S.cell_of w B1 5 [.int .i64 n.k, .int .i64 n.op, .int .u16 n.v, .string n.nm, .slice p1 n.th.length c1, .slice p2 n.el.length c2, .bool n.has, .int .i64 n.p.1, .int .i64 n.p.2] ND _ k2 rfl, S.cell_of w B1 6 [.int .i64 n.k, .int .i64 n.op, .int .u16 n.v, .string n.nm, .slice p1 n.th.length c1, .slice p2 n.el.length c2, .bool n.has, .int .i64 n.p.1, .int .i64 n.p.2] ND _ k2 rfl, S.cell_of w B1 7 [.int .i64 n.k, .int .i64 n.op, .int .u16 n.v, .string n.nm, .slice p1 n.th.length c1, .slice p2 n.el.length c2, .bool n.has, .int .i64 n.p.1, .int .i64 n.p.2] ND _ k2 rfl, S.cell_of w B1 8 [.int .i64 n.k, .int .i64 n.op, .int .u16 n.v, .string n.nm, .slice p1 n.th.length c1, .slice p2 n.el.length c2, .bool n.has, .int .i64 n.p.1, .int .i64 n.p.2] ND _ k2 rfl⟩)
 have HCK := hid (fun (w : World) (k1 : w.heap[ob]? = W.heap[ob]?) => show (w.cell? ⟨ob, i * 9, none⟩ = some (.int .i64 t.k) /\ w.cell? ⟨ob, i * 9 + 6, none⟩ = some (.bool t.has)) from ⟨(World.cell?_of_block (w := W) (a := ⟨ob, i * 9, none⟩) k1).trans (hnO.cell i t y hot hoy 0 _ rfl), (World.cell?_of_block (w := W) (a := ⟨ob, i * 9 + 6, none⟩) k1).trans (hnO.cell i t y hot hoy 6 _ rfl)⟩)
 have htop := top_any g ob cap i hil W1 x13
 have HX := hid (And.intro hbx (And.intro hLN (And.intro hnn (And.intro ht (And.intro he (And.intro hcl (And.intro hbv (And.intro hB (And.intro h (And.intro hov (And.intro hot (And.intro hoy (And.intro hoc hi)))))))))))))
 have j1 : (0 : Int) < ((i + 1 : Nat) : Int) := by omega
 have j2 : (0 : Nat) < i + 1 := by omega
 have hw : wrap64 (t.el.length : Int) = (t.el.length : Int) := by unfold wrap64; omega
 obtain ⟨n1, hn1⟩ : ∃ n1 : Nat, i + 1 = n1 := ⟨_, rfl⟩
 rw [hn1] at x13 j1 j2
 clear hB hbx hR hLN hnn ht he h hcl hbv hov hot hoy hnO hoc hi hn1
 unfold ndc
 go_enter Tryz.func144, Tryz.ntmps144
 go_wp2_with fail
 try rw [hW1]
 refine htop.mono ?_
 rintro e' w2 ⟨rfl, hb2⟩
 obtain ⟨hbx, hLN, hnn, ht, he, hcl, hbv, hB, h, hov, hot, hoy, hoc, hi⟩ := HX.out
 have hBw : Below B1 W w2 := by rw [<- hB1]; exact hB.trans (hb2.mono hB.size)
 have hbw : w2.heap[B1]? = some (.cells #[.int .i64 n.k, .int .i64 n.op, .int .u16 n.v, .string n.nm, .slice p1 n.th.length c1, .slice p2 n.el.length c2, .bool n.has, .int .i64 n.p.1, .int .i64 n.p.2] ND (0, 0)) := (hb2.block _ (Array.getElem?_eq_some_iff.1 hbx).1).trans hbx
 have hobl : ob < B1 := hcl ob (by omega)
 have hob2 : w2.heap[ob]? = W.heap[ob]? := hBw.block ob hobl
 obtain ⟨ck, ch⟩ := HCK.out w2 hob2
 rw [Hha.out] at ch
 have HX2 := hid (And.intro hbw (And.intro hLN (And.intro hnn (And.intro ht (And.intro he (And.intro hcl (And.intro hbv (And.intro hBw (And.intro h (And.intro hov (And.intro hot (And.intro hoy (And.intro hoc (And.intro hi (And.intro hobl hob2)))))))))))))))
 clear HX htop x13 hb2 hbx hLN hnn ht he hcl hbv hB h hov hot hoy hoc hi hBw hbw hobl hob2 hW1
 go_upto_region 7 with fail
 try rw [hB1]
 clear ck ch
 obtain ⟨hbx1, hLN, hnn, ht, he, hcl, hbv, hBd1, h, hov, hot, hoy, hoc, hi, hobl, hob2⟩ := HX2.out
 refine wp_region_drop [10] (S := fun wz : World => wz.cell? ⟨ob, i * 9 + 5, none⟩ = some (.slice pb t.el.length cb) /\ wz.cell? ⟨B1, 0, none⟩ = some (.int .i64 n.k) /\ wz.cell? ⟨B1, 1, none⟩ = some (.int .i64 n.op) /\ wz.cell? ⟨B1, 2, none⟩ = some (.int .u16 n.v) /\ wz.cell? ⟨B1, 3, none⟩ = some (.string n.nm) /\ wz.cell? ⟨B1, 4, none⟩ = some (.slice p1 n.th.length c1) /\ wz.cell? ⟨B1, 5, none⟩ = some (.slice p2 n.el.length c2) /\ wz.cell? ⟨B1, 6, none⟩ = some (.bool n.has) /\ wz.cell? ⟨B1, 7, none⟩ = some (.int .i64 n.p.1) /\ wz.cell? ⟨B1, 8, none⟩ = some (.int .i64 n.p.2)) (by kernel_rfl) (HSX.out w2.drew hob2 hbx1) (fun hHeld => ?_)
 have hBd : Below B1 W w2.drew := ⟨hBd1.os, hBd1.tape, hBd1.output, hBd1.size, hBd1.block⟩
 have hbx : w2.drew.heap[B1]? = some (.cells #[.int .i64 n.k, .int .i64 n.op, .int .u16 n.v, .string n.nm, .slice p1 n.th.length c1, .slice p2 n.el.length c2, .bool n.has, .int .i64 n.p.1, .int .i64 n.p.2] ND (0, 0)) := hbx1
 clear HX2 hbx1 hBd1 hob2
 generalize w2.drew = y0 at *
 refine D.zP (is := [0, 1]) ?_
 iterate 2
  refine D.yP (v := ?_) rfl (by kernel_rfl) (fun c a w h => h) (by rfl) ?_ (fun _ => hHeld) ?_
  rotate_left
  ·(intro w hSw; clear hSw; go_simp; try with_reducible rfl)
  simp only [D.pts]
 refine D.eP ?_
 refine D.zT (is := [2, 3]) ?_
 iterate 2
  refine D.yT (v := ?_) rfl (by kernel_rfl) (fun c a w h => h) (by rfl) ?_ hHeld ?_
  rotate_left
  ·(intro w hSw; (try dsimp only at hSw); go_simp; try with_reducible rfl)
  simp only [D.pts]
 refine D.eT ?_
 refine D.xP 4 (v := ?_) rfl (by kernel_rfl) (fun c a w h => h) (by rfl) ?_ (fun _ => hHeld) ?_
 rotate_left
 ·(intro w hSw; clear hSw; go_simp; try with_reducible rfl)
 simp only [D.pts]
 obtain ⟨y1, hy1⟩ : ∃ y1, y0.alloc (.cells #[.int .i64 0, .int .i64 0, .int .u16 0, .string ⟨#[]⟩, .slice none 0 0, .slice none 0 0, .bool false, .int .i64 0, .int .i64 0] ND) = y1 := ⟨_, rfl⟩
 have hB01 : Below y0.heap.size y0 y1 := by rw [<- hy1]; exact (Below.refl _ _).alloc (Nat.le_refl _) _
 have hcs : S.Cs y1 (.slice (some ⟨y0.heap.size, 0, none⟩) 1 1) 9 1 zL := by rw [<- hy1]; exact cs_zero y0
 have hB1y : Below B1 W y1 := hBd.trans (hB01.mono (by have := (Array.getElem?_eq_some_iff.1 hbx).1; omega))
 have hBW : Below W.heap.size W y1 := by rw [hB1]; exact hB1y
 have hR := h.next hBW
 have hbx2 : y1.heap[B1]? = some (.cells #[.int .i64 n.k, .int .i64 n.op, .int .u16 n.v, .string n.nm, .slice p1 n.th.length c1, .slice p2 n.el.length c2, .bool n.has, .int .i64 n.p.1, .int .i64 n.p.2] ND (0, 0)) := (hB01.block _ (Array.getElem?_eq_some_iff.1 hbx).1).trans hbx
 have kq : ∀ k b, q.c b = k -> k ≠ 0 -> y1.heap[b]? = W.heap[b]? /\ q.c b = k := fun k b e hk => ⟨hB1y.block b (hcl b (by omega)), e⟩
 have hLN1 := hLN.move (fun b e => kq (5 + 2 * i) b e (by omega))
 have nv1 : ∀ {v : Value} {l : List Nd}, NV W (fun b => q.c b = 1) v l -> NV y1 (fun b => q.c b = 1) v l := fun hh => hh.kept (fun b e => (kq 1 b e (by omega)).1) (fun _ hb => hb)
 refine wpD_ready (rs := [5]) (by kernel_rfl) (by simp) ?_
 refine AllD.cons rfl (fun K hK => ?_) AllD.nil
 go_simp
 try rw [hy1]
 refine hK.out _ _ (HSX.out _ (kq 3 ob hoc (by omega)).1 hbx2) (fun hHeld => ?_)
 clear hK K
 try simp only [D.pts]
 rw [hbv] at hLN1
 refine wpD_ready (rs := [6]) (by kernel_rfl) (by simp) ?_
 refine AllD.cons rfl (fun K hK => ?_) AllD.nil
 rw [if_pos (by rfl)]
 refine S.wp_append_row _ _ _ 40 ND zN 9 112 Tryz.underlying40 infoN rfl (by decide) rfl 0 _ t.el.length (ncs t.el zs) rfl hLN1.row _ 1 zL rfl hcs (by unfold S.room; omega) (by unfold maxLen; omega) (Nat.zero_le _) (fun v2 y2 r2 g2 => ?_)
 obtain ⟨b2, k2, hk2, hv2⟩ : ∃ b2 k2, t.el.length + 1 <= k2 /\ v2 = .slice (some ⟨b2, 0, none⟩) (t.el.length + 1) k2 := by
  rcases r2.2 with ⟨_, h0⟩ | ⟨g', c', cur, hv, _, _, hcap, _⟩
  ·omega
  ·exact ⟨g', c', hcap, hv⟩
 subst hv2
 have g3 : S.Grew y1 y2 y.2 (.slice (some ⟨b2, 0, none⟩) (t.el.length + 1) k2) := by rw [hbv]; exact g2
 clear g2
 rw [<- hbv] at hLN1
 have hob3 : y2.heap[ob]? = W.heap[ob]? := (grew_keeps g3 hLN1.col hR.ns.lt ob (by omega) (by omega)).1.trans (kq 3 ob hoc (by omega)).1
 have hne1 : some B1 ≠ (y.2).ownBlock := fun e => by
  have := hcl B1 (by rw [hLN1.col B1 e.symm]; omega)
  omega
 have hbx3 : y2.heap[B1]? = some (.cells #[.int .i64 n.k, .int .i64 n.op, .int .u16 n.v, .string n.nm, .slice p1 n.th.length c1, .slice p2 n.el.length c2, .bool n.has, .int .i64 n.p.1, .int .i64 n.p.2] ND (0, 0)) := (g3.block B1 (Array.getElem?_eq_some_iff.1 hbx2).1 hne1).trans hbx2
 refine hK.out _ _ (HSX.out _ hob3 hbx3) (fun hHeld => ?_)
 clear hK K
 try simp only [D.pts]
 obtain ⟨cur, hcur, hfit, hrow⟩ := own_put (cells := ndc n (.slice p1 n.th.length c1) (.slice p2 n.el.length c2)) r2 (ncs_len t.el zs hLN1.len) rfl rfl
 have hb2g : b2 ≠ ob := by
  rintro rfl
  rcases g3.own with o | o
  ·have := hLN1.col b2 (by rw [<- o]; rfl)
   omega
  ·have := o b2 rfl
   have := hR.ns.lt b2 (by omega)
   omega
 obtain ⟨co, hco⟩ : ∃ co, y2.heap[ob]? = some (.cells co ND (0, 0)) := by rw [hob3]; exact h.ns.ty ob (by omega)
 have i1 : (t.el.length : Int) < (t.el.length : Int) + 1 := by omega
 have i2 : t.el.length < t.el.length + 1 := by omega
 refine D.zP (is := [7, 9]) ?_
 iterate 2
  refine D.yP (v := ?_) rfl (by kernel_rfl) (fun c a w h => h) (by rfl) ?_ (fun _ => hHeld) ?_
  rotate_left
  ·(intro w hSw; clear hSw; go_simp; try with_reducible rfl)
  simp only [D.pts]
 refine D.eP ?_
 obtain ⟨ARR, hARR⟩ : ∃ ARR : Array Value, (cur.toList.take (t.el.length * 9) ++ ndc n (.slice p1 n.th.length c1) (.slice p2 n.el.length c2) ++ cur.toList.drop (t.el.length * 9 + 9)).toArray = ARR := ⟨_, rfl⟩
 rw [hARR] at hrow
 have hA2 : (cur.toList.take (t.el.length * 9) ++ (#[.int .i64 n.k, .int .i64 n.op, .int .u16 n.v, .string n.nm, .slice p1 n.th.length c1, .slice p2 n.el.length c2, .bool n.has, .int .i64 n.p.1, .int .i64 n.p.2] : Array Value).toList ++ cur.toList.drop (t.el.length * 9 + (#[.int .i64 n.k, .int .i64 n.op, .int .u16 n.v, .string n.nm, .slice p1 n.th.length c1, .slice p2 n.el.length c2, .bool n.has, .int .i64 n.p.1, .int .i64 n.p.2] : Array Value).size)).toArray = ARR := hARR
 have hG := grew_row (b1 := b2) g3 rfl ARR
 have hfin := hR.addE hov hot hoy hLN1 (fun i m y hm hy => ⟨nv1 (hnn i m y hm hy).1, nv1 (hnn i m y hm hy).2⟩) hrow hG (nv1 ht) (nv1 he)
 have hB1b : B1 ≠ b2 := by
  rintro rfl
  rcases g3.own with o | o
  ·exact hne1 (by rw [<- o]; rfl)
  ·have := o B1 rfl
   have := (Array.getElem?_eq_some_iff.1 hbx2).1
   omega
 have s1 : (y2.setRow b2 ARR).heap[ob]? = W.heap[ob]? := (setRow_other y2 b2 ob ARR (Ne.symm hb2g)).trans hob3
 have s2 : (y2.setRow b2 ARR).heap[B1]? = some (.cells #[.int .i64 n.k, .int .i64 n.op, .int .u16 n.v, .string n.nm, .slice p1 n.th.length c1, .slice p2 n.el.length c2, .bool n.has, .int .i64 n.p.1, .int .i64 n.p.2] ND (0, 0)) := (setRow_other y2 b2 B1 ARR hB1b).trans hbx3
 have s3 : (y2.setRow b2 ARR).heap[ob]? = some (.cells co ND (0, 0)) := (setRow_other y2 b2 ob ARR (Ne.symm hb2g)).trans hco
 have h1c : ∀ v ∈ (#[.int .i64 n.k, .int .i64 n.op, .int .u16 n.v, .string n.nm, .slice p1 n.th.length c1, .slice p2 n.el.length c2, .bool n.has, .int .i64 n.p.1, .int .i64 n.p.2] : Array Value).toList, v.oneCell' = true := fun v hv => by
  simp only [List.mem_cons, List.not_mem_nil, or_false] at hv
  rcases hv with rfl | rfl | rfl | rfl | rfl | rfl | rfl | rfl | rfl <;> rfl
 have HF := hid hfin
 have HA := hid (And.intro hA2 (And.intro hcur (And.intro hfit (And.intro s1 (And.intro s2 (And.intro s3 (And.intro hob3 hco)))))))
 clear hfin hG hA2 hARR hrow s1 s2 s3 hR hLN1 hLN hnn ht he hcs hy1 hB01 hB1y hBW hBd hbx hbx2 g3 r2 hne1 hcl h hcur hob3 hco hov hot hoy hoc hi hobl
 refine wpD_ready (rs := [8, 10]) (by kernel_rfl) (by simp) ?_
 refine AllD.cons rfl (fun K hK => ?_) (AllD.late rfl (by kernel_rfl) (fun K hK => ?_))
 ·rw [if_pos (by rfl)]
  refine wp_store_at ND (.tmp 41) (.tmp 37) rfl ND cur b2 (t.el.length * 9) HA.out.2.1 #[.int .i64 n.k, .int .i64 n.op, .int .u16 n.v, .string n.nm, .slice p1 n.th.length c1, .slice p2 n.el.length c2, .bool n.has, .int .i64 n.p.1, .int .i64 n.p.2] HA.out.2.2.1 rfl rfl sizeN h1c ?_
  rw [HA.out.1]
  refine hK.out _ _ (HSX.out _ HA.out.2.2.2.1 HA.out.2.2.2.2.1) (fun hHeld => ?_)
  clear hK K
  try simp only [D.pts]
  have k12 := (HSX.out _ HA.out.2.2.2.1 HA.out.2.2.2.2.1).1
  have f12 := frz HA.out.2.2.2.2.2.1 (i * 9 + 5)
  obtain ⟨y3, hy3⟩ : ∃ y3, y2.setRow b2 ARR = y3 := ⟨_, rfl⟩
  rw [hy3] at k12 f12 hHeld
  have HF3 := HF
  rw [hy3] at HF3
  try rw [hy3]
  clear hy3
  refine wpD_ready (rs := [10]) (by kernel_rfl) (by simp) ?_
  refine AllD.late rfl (by kernel_rfl) (fun K hK => ?_)
  go_simp
  refine hK.out _ _ ?_
  clear hK K
  try simp only [D.pts]
  refine wpD_done (by kernel_rfl) ?_ _
  clear k12 f12 hHeld
  go_wp2
  go_end0
  exact ⟨rfl, _, HF3.out⟩
 ·have k12 := (HSX.out _ HA.out.2.2.2.2.2.2.1 hbx3).1
  have f12 := frz HA.out.2.2.2.2.2.2.2 (i * 9 + 5)
  go_simp
  refine hK.out _ _ ?_
  clear hK K
  try simp only [D.pts]
  have hc4 : (y2.setCell ⟨ob, i * 9 + 5, none⟩ (.slice (some ⟨b2, 0, none⟩) (t.el.length + 1) k2)).heap[b2]? = some (.cells cur ND (0, 0)) := (heap_setCell_other y2 ⟨ob, i * 9 + 5, none⟩ b2 _ hb2g).trans HA.out.2.1
  refine wpD_ready (rs := [8]) (by kernel_rfl) (by simp) ?_
  refine AllD.late rfl (by kernel_rfl) (fun K hK => ?_)
  rw [if_pos (by rfl)]
  refine wp_store_at ND (.tmp 41) (.tmp 37) rfl ND cur b2 (t.el.length * 9) hc4 #[.int .i64 n.k, .int .i64 n.op, .int .u16 n.v, .string n.nm, .slice p1 n.th.length c1, .slice p2 n.el.length c2, .bool n.has, .int .i64 n.p.1, .int .i64 n.p.2] HA.out.2.2.1 rfl rfl sizeN h1c ?_
  rw [HA.out.1, row_cell y2 b2 ob (i * 9 + 5) ARR _ hb2g]
  refine hK.out _ _ ?_
  clear hK K
  try simp only [D.pts]
  refine wpD_done (by kernel_rfl) ?_ _
  clear k12 f12 hc4
  go_wp2
  go_end0
  exact ⟨rfl, _, HF.out⟩
theorem add_E2 (W0 : World) (pm : Px) (g : Nat) (e : Ps) (W : World) (r : Rd) (q : Rv) (h : RS W0 pm g e W r q) (ob cap i : Nat) (t : Nd) (y : Value × Value) (hov : q.ov = .slice (some ⟨ob, 0, none⟩) r.opn.length cap) (hi : i + 1 = r.opn.length) (hot : r.opn[i]? = some t) (hoy : q.ys[i]? = some y) (hil : i < 1000000) (hha : t.has = false) (hk6 : t.k = 6) (hl : t.el.length <= 1000000) (n : Nd) (tv ev : Value) (ht : NV W (fun b => q.c b = 1) tv n.th) (he : NV W (fun b => q.c b = 1) ev n.el) :
  Calls Tryz.prog 144 #[.pointer (some ⟨g, 0, none⟩), .agg (ndc n tv ev).toArray] W fun en w' => en = .returned (.tuple #[]) /\ ∃ q', RS W0 pm g e w' { r with opn := r.opn.set i { t with el := t.el ++ [n] } } q' := by
 have Hha := hid hha
 clear hha
 have Hk6 := hid hk6
 clear hk6
 obtain ⟨p1, c1, rfl, _, _⟩ := ht.ex
 obtain ⟨p2, c2, rfl, _, _⟩ := he.ex
 obtain ⟨zs, hLN, hnn⟩ := id (h.ns.lists i t y hot hoy).2
 obtain ⟨pb, cb, hbv⟩ : ∃ p c, y.2 = .slice p t.el.length c := by
  rcases hLN.val with ⟨e1, e2⟩ | ⟨g', cap, e1, _⟩
  ·exact ⟨none, 0, by rw [e1, e2]; rfl⟩
  ·exact ⟨_, _, e1⟩
 have hnO := h.ns.ow
 rw [hov] at hnO
 obtain ⟨W1, hW1⟩ : ∃ W1, W.alloc (.cells #[.int .i64 n.k, .int .i64 n.op, .int .u16 n.v, .string n.nm, .slice p1 n.th.length c1, .slice p2 n.el.length c2, .bool n.has, .int .i64 n.p.1, .int .i64 n.p.2] ND) = W1 := ⟨_, rfl⟩
 have hB : Below W.heap.size W W1 := by rw [<- hW1]; exact (Below.refl _ _).alloc (Nat.le_refl _) _
 have hbx : W1.heap[W.heap.size]? = some (.cells #[.int .i64 n.k, .int .i64 n.op, .int .u16 n.v, .string n.nm, .slice p1 n.th.length c1, .slice p2 n.el.length c2, .bool n.has, .int .i64 n.p.1, .int .i64 n.p.2] ND (0, 0)) := by rw [<- hW1]; exact heap_alloc_new W _
 have hcl : ∀ b, q.c b ≠ 0 -> b < W.heap.size := h.ns.lt
 have hoc : q.c ob = 3 := hnO.col ob rfl
 have hR := h.next hB
 have x13 := (rd_cells hR.blk).2.2.2.2.2.2.2.2.2.2.2.2.2.1
 rw [hov, <- hi] at x13
 obtain ⟨B1, hB1⟩ : ∃ B1, W.heap.size = B1 := ⟨_, rfl⟩
 rw [hB1] at hbx hcl
 have HSX := hid (fun (w : World) (k1 : w.heap[ob]? = W.heap[ob]?) (k2 : w.heap[B1]? = some (.cells #[.int .i64 n.k, .int .i64 n.op, .int .u16 n.v, .string n.nm, .slice p1 n.th.length c1, .slice p2 n.el.length c2, .bool n.has, .int .i64 n.p.1, .int .i64 n.p.2] ND (0, 0))) => show (w.cell? ⟨ob, i * 9 + 5, none⟩ = some (.slice pb t.el.length cb) /\ w.cell? ⟨B1, 0, none⟩ = some (.int .i64 n.k) /\ w.cell? ⟨B1, 1, none⟩ = some (.int .i64 n.op) /\ w.cell? ⟨B1, 2, none⟩ = some (.int .u16 n.v) /\ w.cell? ⟨B1, 3, none⟩ = some (.string n.nm) /\ w.cell? ⟨B1, 4, none⟩ = some (.slice p1 n.th.length c1) /\ w.cell? ⟨B1, 5, none⟩ = some (.slice p2 n.el.length c2) /\ w.cell? ⟨B1, 6, none⟩ = some (.bool n.has) /\ w.cell? ⟨B1, 7, none⟩ = some (.int .i64 n.p.1) /\ w.cell? ⟨B1, 8, none⟩ = some (.int .i64 n.p.2)) from ⟨by rw [<- hbv]; exact (World.cell?_of_block (w := W) (a := ⟨ob, i * 9 + 5, none⟩) k1).trans (hnO.cell i t y hot hoy 5 _ rfl), S.cell_of w B1 0 [.int .i64 n.k, .int .i64 n.op, .int .u16 n.v, .string n.nm, .slice p1 n.th.length c1, .slice p2 n.el.length c2, .bool n.has, .int .i64 n.p.1, .int .i64 n.p.2] ND _ k2 rfl, S.cell_of w B1 1 [.int .i64 n.k, .int .i64 n.op, .int .u16 n.v, .string n.nm, .slice p1 n.th.length c1, .slice p2 n.el.length c2, .bool n.has, .int .i64 n.p.1, .int .i64 n.p.2] ND _ k2 rfl, S.cell_of w B1 2 [.int .i64 n.k, .int .i64 n.op, .int .u16 n.v, .string n.nm, .slice p1 n.th.length c1, .slice p2 n.el.length c2, .bool n.has, .int .i64 n.p.1, .int .i64 n.p.2] ND _ k2 rfl, S.cell_of w B1 3 [.int .i64 n.k, .int .i64 n.op, .int .u16 n.v, .string n.nm, .slice p1 n.th.length c1, .slice p2 n.el.length c2, .bool n.has, .int .i64 n.p.1, .int .i64 n.p.2] ND _ k2 rfl, S.cell_of w B1 4 [.int .i64 n.k, .int .i64 n.op, .int .u16 n.v, .string n.nm, .slice p1 n.th.length c1, .slice p2 n.el.length c2, .bool n.has, .int .i64 n.p.1, .int .i64 n.p.2] ND _ k2 rfl, S.cell_of w B1 5 [.int .i64 n.k, .int .i64 n.op, .int .u16 n.v, .string n.nm, .slice p1 n.th.length c1, .slice p2 n.el.length c2, .bool n.has, .int .i64 n.p.1, .int .i64 n.p.2] ND _ k2 rfl, S.cell_of w B1 6 [.int .i64 n.k, .int .i64 n.op, .int .u16 n.v, .string n.nm, .slice p1 n.th.length c1, .slice p2 n.el.length c2, .bool n.has, .int .i64 n.p.1, .int .i64 n.p.2] ND _ k2 rfl, S.cell_of w B1 7 [.int .i64 n.k, .int .i64 n.op, .int .u16 n.v, .string n.nm, .slice p1 n.th.length c1, .slice p2 n.el.length c2, .bool n.has, .int .i64 n.p.1, .int .i64 n.p.2] ND _ k2 rfl, S.cell_of w B1 8 [.int .i64 n.k, .int .i64 n.op, .int .u16 n.v, .string n.nm, .slice p1 n.th.length c1, .slice p2 n.el.length c2, .bool n.has, .int .i64 n.p.1, .int .i64 n.p.2] ND _ k2 rfl⟩)
 have HCK := hid (fun (w : World) (k1 : w.heap[ob]? = W.heap[ob]?) => show (w.cell? ⟨ob, i * 9, none⟩ = some (.int .i64 t.k) /\ w.cell? ⟨ob, i * 9 + 6, none⟩ = some (.bool t.has)) from ⟨(World.cell?_of_block (w := W) (a := ⟨ob, i * 9, none⟩) k1).trans (hnO.cell i t y hot hoy 0 _ rfl), (World.cell?_of_block (w := W) (a := ⟨ob, i * 9 + 6, none⟩) k1).trans (hnO.cell i t y hot hoy 6 _ rfl)⟩)
 have htop := top_any g ob cap i hil W1 x13
 have HX := hid (And.intro hbx (And.intro hLN (And.intro hnn (And.intro ht (And.intro he (And.intro hcl (And.intro hbv (And.intro hB (And.intro h (And.intro hov (And.intro hot (And.intro hoy (And.intro hoc hi)))))))))))))
 have j1 : (0 : Int) < ((i + 1 : Nat) : Int) := by omega
 have j2 : (0 : Nat) < i + 1 := by omega
 have hw : wrap64 (t.el.length : Int) = (t.el.length : Int) := by unfold wrap64; omega
 obtain ⟨n1, hn1⟩ : ∃ n1 : Nat, i + 1 = n1 := ⟨_, rfl⟩
 rw [hn1] at x13 j1 j2
 clear hB hbx hR hLN hnn ht he h hcl hbv hov hot hoy hnO hoc hi hn1
 unfold ndc
 go_enter Tryz.func144, Tryz.ntmps144
 go_wp2_with fail
 try rw [hW1]
 refine htop.mono ?_
 rintro e' w2 ⟨rfl, hb2⟩
 obtain ⟨hbx, hLN, hnn, ht, he, hcl, hbv, hB, h, hov, hot, hoy, hoc, hi⟩ := HX.out
 have hBw : Below B1 W w2 := by rw [<- hB1]; exact hB.trans (hb2.mono hB.size)
 have hbw : w2.heap[B1]? = some (.cells #[.int .i64 n.k, .int .i64 n.op, .int .u16 n.v, .string n.nm, .slice p1 n.th.length c1, .slice p2 n.el.length c2, .bool n.has, .int .i64 n.p.1, .int .i64 n.p.2] ND (0, 0)) := (hb2.block _ (Array.getElem?_eq_some_iff.1 hbx).1).trans hbx
 have hobl : ob < B1 := hcl ob (by omega)
 have hob2 : w2.heap[ob]? = W.heap[ob]? := hBw.block ob hobl
 obtain ⟨ck, ch⟩ := HCK.out w2 hob2
 rw [Hha.out] at ch
 rw [Hk6.out] at ck
 have HX2 := hid (And.intro hbw (And.intro hLN (And.intro hnn (And.intro ht (And.intro he (And.intro hcl (And.intro hbv (And.intro hBw (And.intro h (And.intro hov (And.intro hot (And.intro hoy (And.intro hoc (And.intro hi (And.intro hobl hob2)))))))))))))))
 clear HX htop x13 hb2 hbx hLN hnn ht he hcl hbv hB h hov hot hoy hoc hi hBw hbw hobl hob2 hW1
 go_upto_region 7 with fail
 try rw [hB1]
 clear ck ch
 obtain ⟨hbx1, hLN, hnn, ht, he, hcl, hbv, hBd1, h, hov, hot, hoy, hoc, hi, hobl, hob2⟩ := HX2.out
 refine wp_region_drop [10] (S := fun wz : World => wz.cell? ⟨ob, i * 9 + 5, none⟩ = some (.slice pb t.el.length cb) /\ wz.cell? ⟨B1, 0, none⟩ = some (.int .i64 n.k) /\ wz.cell? ⟨B1, 1, none⟩ = some (.int .i64 n.op) /\ wz.cell? ⟨B1, 2, none⟩ = some (.int .u16 n.v) /\ wz.cell? ⟨B1, 3, none⟩ = some (.string n.nm) /\ wz.cell? ⟨B1, 4, none⟩ = some (.slice p1 n.th.length c1) /\ wz.cell? ⟨B1, 5, none⟩ = some (.slice p2 n.el.length c2) /\ wz.cell? ⟨B1, 6, none⟩ = some (.bool n.has) /\ wz.cell? ⟨B1, 7, none⟩ = some (.int .i64 n.p.1) /\ wz.cell? ⟨B1, 8, none⟩ = some (.int .i64 n.p.2)) (by kernel_rfl) (HSX.out w2.drew hob2 hbx1) (fun hHeld => ?_)
 have hBd : Below B1 W w2.drew := ⟨hBd1.os, hBd1.tape, hBd1.output, hBd1.size, hBd1.block⟩
 have hbx : w2.drew.heap[B1]? = some (.cells #[.int .i64 n.k, .int .i64 n.op, .int .u16 n.v, .string n.nm, .slice p1 n.th.length c1, .slice p2 n.el.length c2, .bool n.has, .int .i64 n.p.1, .int .i64 n.p.2] ND (0, 0)) := hbx1
 clear HX2 hbx1 hBd1 hob2
 generalize w2.drew = y0 at *
 refine D.zP (is := [0, 1]) ?_
 iterate 2
  refine D.yP (v := ?_) rfl (by kernel_rfl) (fun c a w h => h) (by rfl) ?_ (fun _ => hHeld) ?_
  rotate_left
  ·(intro w hSw; clear hSw; go_simp; try with_reducible rfl)
  simp only [D.pts]
 refine D.eP ?_
 refine D.zT (is := [2, 3]) ?_
 iterate 2
  refine D.yT (v := ?_) rfl (by kernel_rfl) (fun c a w h => h) (by rfl) ?_ hHeld ?_
  rotate_left
  ·(intro w hSw; (try dsimp only at hSw); go_simp; try with_reducible rfl)
  simp only [D.pts]
 refine D.eT ?_
 refine D.xP 4 (v := ?_) rfl (by kernel_rfl) (fun c a w h => h) (by rfl) ?_ (fun _ => hHeld) ?_
 rotate_left
 ·(intro w hSw; clear hSw; go_simp; try with_reducible rfl)
 simp only [D.pts]
 obtain ⟨y1, hy1⟩ : ∃ y1, y0.alloc (.cells #[.int .i64 0, .int .i64 0, .int .u16 0, .string ⟨#[]⟩, .slice none 0 0, .slice none 0 0, .bool false, .int .i64 0, .int .i64 0] ND) = y1 := ⟨_, rfl⟩
 have hB01 : Below y0.heap.size y0 y1 := by rw [<- hy1]; exact (Below.refl _ _).alloc (Nat.le_refl _) _
 have hcs : S.Cs y1 (.slice (some ⟨y0.heap.size, 0, none⟩) 1 1) 9 1 zL := by rw [<- hy1]; exact cs_zero y0
 have hB1y : Below B1 W y1 := hBd.trans (hB01.mono (by have := (Array.getElem?_eq_some_iff.1 hbx).1; omega))
 have hBW : Below W.heap.size W y1 := by rw [hB1]; exact hB1y
 have hR := h.next hBW
 have hbx2 : y1.heap[B1]? = some (.cells #[.int .i64 n.k, .int .i64 n.op, .int .u16 n.v, .string n.nm, .slice p1 n.th.length c1, .slice p2 n.el.length c2, .bool n.has, .int .i64 n.p.1, .int .i64 n.p.2] ND (0, 0)) := (hB01.block _ (Array.getElem?_eq_some_iff.1 hbx).1).trans hbx
 have kq : ∀ k b, q.c b = k -> k ≠ 0 -> y1.heap[b]? = W.heap[b]? /\ q.c b = k := fun k b e hk => ⟨hB1y.block b (hcl b (by omega)), e⟩
 have hLN1 := hLN.move (fun b e => kq (5 + 2 * i) b e (by omega))
 have nv1 : ∀ {v : Value} {l : List Nd}, NV W (fun b => q.c b = 1) v l -> NV y1 (fun b => q.c b = 1) v l := fun hh => hh.kept (fun b e => (kq 1 b e (by omega)).1) (fun _ hb => hb)
 refine wpD_ready (rs := [5]) (by kernel_rfl) (by simp) ?_
 refine AllD.cons rfl (fun K hK => ?_) AllD.nil
 go_simp
 try rw [hy1]
 refine hK.out _ _ (HSX.out _ (kq 3 ob hoc (by omega)).1 hbx2) (fun hHeld => ?_)
 clear hK K
 try simp only [D.pts]
 rw [hbv] at hLN1
 refine wpD_ready (rs := [6]) (by kernel_rfl) (by simp) ?_
 refine AllD.cons rfl (fun K hK => ?_) AllD.nil
 rw [if_pos (by rfl)]
 refine S.wp_append_row _ _ _ 40 ND zN 9 112 Tryz.underlying40 infoN rfl (by decide) rfl 0 _ t.el.length (ncs t.el zs) rfl hLN1.row _ 1 zL rfl hcs (by unfold S.room; omega) (by unfold maxLen; omega) (Nat.zero_le _) (fun v2 y2 r2 g2 => ?_)
 obtain ⟨b2, k2, hk2, hv2⟩ : ∃ b2 k2, t.el.length + 1 <= k2 /\ v2 = .slice (some ⟨b2, 0, none⟩) (t.el.length + 1) k2 := by
  rcases r2.2 with ⟨_, h0⟩ | ⟨g', c', cur, hv, _, _, hcap, _⟩
  ·omega
  ·exact ⟨g', c', hcap, hv⟩
 subst hv2
 have g3 : S.Grew y1 y2 y.2 (.slice (some ⟨b2, 0, none⟩) (t.el.length + 1) k2) := by rw [hbv]; exact g2
 clear g2
 rw [<- hbv] at hLN1
 have hob3 : y2.heap[ob]? = W.heap[ob]? := (grew_keeps g3 hLN1.col hR.ns.lt ob (by omega) (by omega)).1.trans (kq 3 ob hoc (by omega)).1
 have hne1 : some B1 ≠ (y.2).ownBlock := fun e => by
  have := hcl B1 (by rw [hLN1.col B1 e.symm]; omega)
  omega
 have hbx3 : y2.heap[B1]? = some (.cells #[.int .i64 n.k, .int .i64 n.op, .int .u16 n.v, .string n.nm, .slice p1 n.th.length c1, .slice p2 n.el.length c2, .bool n.has, .int .i64 n.p.1, .int .i64 n.p.2] ND (0, 0)) := (g3.block B1 (Array.getElem?_eq_some_iff.1 hbx2).1 hne1).trans hbx2
 refine hK.out _ _ (HSX.out _ hob3 hbx3) (fun hHeld => ?_)
 clear hK K
 try simp only [D.pts]
 obtain ⟨cur, hcur, hfit, hrow⟩ := own_put (cells := ndc n (.slice p1 n.th.length c1) (.slice p2 n.el.length c2)) r2 (ncs_len t.el zs hLN1.len) rfl rfl
 have hb2g : b2 ≠ ob := by
  rintro rfl
  rcases g3.own with o | o
  ·have := hLN1.col b2 (by rw [<- o]; rfl)
   omega
  ·have := o b2 rfl
   have := hR.ns.lt b2 (by omega)
   omega
 obtain ⟨co, hco⟩ : ∃ co, y2.heap[ob]? = some (.cells co ND (0, 0)) := by rw [hob3]; exact h.ns.ty ob (by omega)
 have i1 : (t.el.length : Int) < (t.el.length : Int) + 1 := by omega
 have i2 : t.el.length < t.el.length + 1 := by omega
 refine D.zP (is := [7, 9]) ?_
 iterate 2
  refine D.yP (v := ?_) rfl (by kernel_rfl) (fun c a w h => h) (by rfl) ?_ (fun _ => hHeld) ?_
  rotate_left
  ·(intro w hSw; clear hSw; go_simp; try with_reducible rfl)
  simp only [D.pts]
 refine D.eP ?_
 obtain ⟨ARR, hARR⟩ : ∃ ARR : Array Value, (cur.toList.take (t.el.length * 9) ++ ndc n (.slice p1 n.th.length c1) (.slice p2 n.el.length c2) ++ cur.toList.drop (t.el.length * 9 + 9)).toArray = ARR := ⟨_, rfl⟩
 rw [hARR] at hrow
 have hA2 : (cur.toList.take (t.el.length * 9) ++ (#[.int .i64 n.k, .int .i64 n.op, .int .u16 n.v, .string n.nm, .slice p1 n.th.length c1, .slice p2 n.el.length c2, .bool n.has, .int .i64 n.p.1, .int .i64 n.p.2] : Array Value).toList ++ cur.toList.drop (t.el.length * 9 + (#[.int .i64 n.k, .int .i64 n.op, .int .u16 n.v, .string n.nm, .slice p1 n.th.length c1, .slice p2 n.el.length c2, .bool n.has, .int .i64 n.p.1, .int .i64 n.p.2] : Array Value).size)).toArray = ARR := hARR
 have hG := grew_row (b1 := b2) g3 rfl ARR
 have hfin := hR.addE hov hot hoy hLN1 (fun i m y hm hy => ⟨nv1 (hnn i m y hm hy).1, nv1 (hnn i m y hm hy).2⟩) hrow hG (nv1 ht) (nv1 he)
 have hB1b : B1 ≠ b2 := by
  rintro rfl
  rcases g3.own with o | o
  ·exact hne1 (by rw [<- o]; rfl)
  ·have := o B1 rfl
   have := (Array.getElem?_eq_some_iff.1 hbx2).1
   omega
 have s1 : (y2.setRow b2 ARR).heap[ob]? = W.heap[ob]? := (setRow_other y2 b2 ob ARR (Ne.symm hb2g)).trans hob3
 have s2 : (y2.setRow b2 ARR).heap[B1]? = some (.cells #[.int .i64 n.k, .int .i64 n.op, .int .u16 n.v, .string n.nm, .slice p1 n.th.length c1, .slice p2 n.el.length c2, .bool n.has, .int .i64 n.p.1, .int .i64 n.p.2] ND (0, 0)) := (setRow_other y2 b2 B1 ARR hB1b).trans hbx3
 have s3 : (y2.setRow b2 ARR).heap[ob]? = some (.cells co ND (0, 0)) := (setRow_other y2 b2 ob ARR (Ne.symm hb2g)).trans hco
 have h1c : ∀ v ∈ (#[.int .i64 n.k, .int .i64 n.op, .int .u16 n.v, .string n.nm, .slice p1 n.th.length c1, .slice p2 n.el.length c2, .bool n.has, .int .i64 n.p.1, .int .i64 n.p.2] : Array Value).toList, v.oneCell' = true := fun v hv => by
  simp only [List.mem_cons, List.not_mem_nil, or_false] at hv
  rcases hv with rfl | rfl | rfl | rfl | rfl | rfl | rfl | rfl | rfl <;> rfl
 have HF := hid hfin
 have HA := hid (And.intro hA2 (And.intro hcur (And.intro hfit (And.intro s1 (And.intro s2 (And.intro s3 (And.intro hob3 hco)))))))
 clear hfin hG hA2 hARR hrow s1 s2 s3 hR hLN1 hLN hnn ht he hcs hy1 hB01 hB1y hBW hBd hbx hbx2 g3 r2 hne1 hcl h hcur hob3 hco hov hot hoy hoc hi hobl
 refine wpD_ready (rs := [8, 10]) (by kernel_rfl) (by simp) ?_
 refine AllD.cons rfl (fun K hK => ?_) (AllD.late rfl (by kernel_rfl) (fun K hK => ?_))
 ·rw [if_pos (by rfl)]
  refine wp_store_at ND (.tmp 41) (.tmp 37) rfl ND cur b2 (t.el.length * 9) HA.out.2.1 #[.int .i64 n.k, .int .i64 n.op, .int .u16 n.v, .string n.nm, .slice p1 n.th.length c1, .slice p2 n.el.length c2, .bool n.has, .int .i64 n.p.1, .int .i64 n.p.2] HA.out.2.2.1 rfl rfl sizeN h1c ?_
  rw [HA.out.1]
  refine hK.out _ _ (HSX.out _ HA.out.2.2.2.1 HA.out.2.2.2.2.1) (fun hHeld => ?_)
  clear hK K
  try simp only [D.pts]
  have k12 := (HSX.out _ HA.out.2.2.2.1 HA.out.2.2.2.2.1).1
  have f12 := frz HA.out.2.2.2.2.2.1 (i * 9 + 5)
  obtain ⟨y3, hy3⟩ : ∃ y3, y2.setRow b2 ARR = y3 := ⟨_, rfl⟩
  rw [hy3] at k12 f12 hHeld
  have HF3 := HF
  rw [hy3] at HF3
  try rw [hy3]
  clear hy3
  refine wpD_ready (rs := [10]) (by kernel_rfl) (by simp) ?_
  refine AllD.late rfl (by kernel_rfl) (fun K hK => ?_)
  go_simp
  refine hK.out _ _ ?_
  clear hK K
  try simp only [D.pts]
  refine wpD_done (by kernel_rfl) ?_ _
  clear k12 f12 hHeld
  go_wp2
  go_end0
  exact ⟨rfl, _, HF3.out⟩
 ·have k12 := (HSX.out _ HA.out.2.2.2.2.2.2.1 hbx3).1
  have f12 := frz HA.out.2.2.2.2.2.2.2 (i * 9 + 5)
  go_simp
  refine hK.out _ _ ?_
  clear hK K
  try simp only [D.pts]
  have hc4 : (y2.setCell ⟨ob, i * 9 + 5, none⟩ (.slice (some ⟨b2, 0, none⟩) (t.el.length + 1) k2)).heap[b2]? = some (.cells cur ND (0, 0)) := (heap_setCell_other y2 ⟨ob, i * 9 + 5, none⟩ b2 _ hb2g).trans HA.out.2.1
  refine wpD_ready (rs := [8]) (by kernel_rfl) (by simp) ?_
  refine AllD.late rfl (by kernel_rfl) (fun K hK => ?_)
  rw [if_pos (by rfl)]
  refine wp_store_at ND (.tmp 41) (.tmp 37) rfl ND cur b2 (t.el.length * 9) hc4 #[.int .i64 n.k, .int .i64 n.op, .int .u16 n.v, .string n.nm, .slice p1 n.th.length c1, .slice p2 n.el.length c2, .bool n.has, .int .i64 n.p.1, .int .i64 n.p.2] HA.out.2.2.1 rfl rfl sizeN h1c ?_
  rw [HA.out.1, row_cell y2 b2 ob (i * 9 + 5) ARR _ hb2g]
  refine hK.out _ _ ?_
  clear hK K
  try simp only [D.pts]
  refine wpD_done (by kernel_rfl) ?_ _
  clear k12 f12 hc4
  go_wp2
  go_end0
  exact ⟨rfl, _, HF.out⟩
end Go.Proofs.YtdnklgceghllaaaGreatDoor.D
