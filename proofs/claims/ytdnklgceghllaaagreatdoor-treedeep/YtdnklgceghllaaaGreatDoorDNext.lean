import Derived.Test.YtdnklgceghllaaaGreatDoorDDrop
import Derived.Test.YtdnklgceghllaaaGreatDoorDRs
namespace Go.Proofs.YtdnklgceghllaaaGreatDoor.D
open Go.RowKit
open Go.Proofs
open Go.Proofs.YtdnklgceghllaaaGreatDoor.K (Tk)
open Go.Proofs.YtdnklgceghllaaaGreatDoor.Y (Nd Df Ps ndc dfc NV NA N1 ZV hid)
open Go.Proofs.YtdnklgceghllaaaGreatDoor.R (MP En numb)
set_option linter.unusedVariables false
set_option linter.unusedSimpArgs false
set_option maxHeartbeats 2000000
set_option maxRecDepth 100000
theorem RC.put {W0 : World} {pm : Px} {g : Nat} {e : Ps} {W W' : World} {r r' : Rd} {q q' : Rv} (h : RC W0 pm g e W r q) (hb : W'.heap[g]? = some (.cells (rdc e r' q').toArray RD (0, 0))) (ho : ∀ b, b < W.heap.size -> b ≠ g -> W'.heap[b]? = W.heap[b]?) (bel : Below W0.heap.size W0 W')
  (h1 : r'.defs = r.defs) (h2 : r'.banks = r.banks) (hr : S.Ls tkc 5 W0 q'.rv r'.rest)
  (k1 : q'.dv = q.dv) (k2 : q'.xv = q.xv) (k3 : q'.mn = q.mn) (k4 : q'.mp = q.mp) (k8 : q'.c = q.c) (k9 : q'.ws = q.ws) (k10 : q'.zs = q.zs) : RC W0 pm g e W' r' q' := by
 have hm := h.hmn
 have hp := h.hmp
 have hob : ∀ {t : TypeId} {s n : Nat} {v : Value} {xs : List Value}, W.ownsRow (g + 1) t s v n xs -> W'.ownsRow (g + 1) t s v n xs := fun hh => S.own_kept hh (fun k e hk => ho k hk (by have := (hh.lt k e).1; omega))
 refine ⟨h.old, bel, hb, hr, ?_, ?_, by rw [k3]; exact hm, by rw [k4]; exact hp, by rw [k3, k4]; exact h.mkp, ?_, ?_, ?_, ?_, ?_, ?_, ?_, ?_, ex_kept h.ex h.blk (by decide) ho⟩
 ·rw [k3, h1]; exact h.known.kept (ho _ h.known.lt (by omega))
 ·rw [k4]; exact h.prims.kept (ho _ h.prims.lt (by omega))
 ·rw [k8]; exact fun b hb => by rw [ho b (h.clt b hb) (by have := h.cg b hb; omega)]; exact h.ty b hb
 ·rw [k8]; exact h.cg
 ·rw [k1, k9, h1]; exact hob h.drow
 ·rw [k9, h1]; exact h.dlen
 ·rw [k9, h1, k8]; exact fun i d w hd hw => (h.dnv i d w hd hw).kept (fun k hk => ho k (h.clt k (by omega)) (by have := h.cg k (by omega); omega)) (fun _ hk => hk)
 ·rw [k2, k10, h2]; exact hob h.brow
 ·rw [k10, h2]; exact h.blen
 ·rw [k10, h2]; exact fun i d w hd hw => hob (h.bdat i d w hd hw)
theorem rd_cells {W : World} {g : Nat} {e : Ps} {r : Rd} {q : Rv} (h : W.heap[g]? = some (.cells (rdc e r q).toArray RD (0, 0))) : W.cell? ⟨g, 0, none⟩ = some q.rv /\ W.cell? ⟨g, 1, none⟩ = some (.int .i64 e.1) /\ W.cell? ⟨g, 2, none⟩ = some (.int .i64 e.2) /\ W.cell? ⟨g, 3, none⟩ = some q.dv /\ W.cell? ⟨g, 4, none⟩ = some q.xv /\ W.cell? ⟨g, 5, none⟩ = some (.map (some q.mn)) /\ W.cell? ⟨g, 6, none⟩ = some (.map (some q.mp)) /\ W.cell? ⟨g, 7, none⟩ = some (.int .i64 r.at_.k) /\ W.cell? ⟨g, 8, none⟩ = some (.string r.at_.t) /\ W.cell? ⟨g, 9, none⟩ = some (.int .u16 r.at_.v) /\ W.cell? ⟨g, 10, none⟩ = some (.int .i64 r.at_.p.1) /\ W.cell? ⟨g, 11, none⟩ = some (.int .i64 r.at_.p.2) /\ W.cell? ⟨g, 12, none⟩ = some q.bv /\ W.cell? ⟨g, 13, none⟩ = some q.ov /\ W.cell? ⟨g, 14, none⟩ = some (.bool r.ended) :=
 ⟨S.cell_of W g 0 _ _ _ h rfl, S.cell_of W g 1 _ _ _ h rfl, S.cell_of W g 2 _ _ _ h rfl, S.cell_of W g 3 _ _ _ h rfl, S.cell_of W g 4 _ _ _ h rfl, S.cell_of W g 5 _ _ _ h rfl, S.cell_of W g 6 _ _ _ h rfl, S.cell_of W g 7 _ _ _ h rfl, S.cell_of W g 8 _ _ _ h rfl, S.cell_of W g 9 _ _ _ h rfl, S.cell_of W g 10 _ _ _ h rfl, S.cell_of W g 11 _ _ _ h rfl, S.cell_of W g 12 _ _ _ h rfl, S.cell_of W g 13 _ _ _ h rfl, S.cell_of W g 14 _ _ _ h rfl⟩
theorem sizeTK : (Tryz.prog.info? 53).map (·.size) = some 5 := by kernel_rfl
theorem next_no (W0 : World) (pm : Px) (g : Nat) (e : Ps) (W : World) (r : Rd) (q : Rv) (h : RC W0 pm g e W r q) (hn : r.rest = []) :
  Calls Tryz.prog 75 #[.pointer (some ⟨g, 0, none⟩)] W fun en w' => en = .panicked (flt (e, 105)) /\ Below W.heap.size W w' := by
 obtain ⟨p, c, hv, _, _⟩ := h.rest.ex
 rw [hn] at hv
 obtain ⟨W1, hW1⟩ : ∃ W1, W.alloc (.cells #[.int .i64 0, .string ⟨#[]⟩, .int .u16 0, .int .i64 0, .int .i64 0] 53) = W1 := ⟨_, rfl⟩
 have hB : Below W.heap.size W W1 := by rw [<- hW1]; exact (Below.refl _ _).alloc (Nat.le_refl _) _
 obtain ⟨c0, c1, c2, _⟩ := rd_cells ((hB.block g h.lt).trans h.blk)
 rw [hv] at c0
 have HB := hid hB
 clear hB h hn hv
 unfold flt
 go_enter Tryz.func75, Tryz.ntmps75
 go_wp2
 exact ⟨rfl, rfl, HB.out⟩
theorem next_1 (W0 : World) (pm : Px) (g : Nat) (e : Ps) (W : World) (r : Rd) (q : Rv) (h : RC W0 pm g e W r q) (t : Tk) (ts : List Tk) (hn : r.rest = t :: ts) (b o c : Nat) (hv : q.rv = .slice (some ⟨b, o, none⟩) (ts.length + 1) c) (hc : c = 1) :
  Calls Tryz.prog 75 #[.pointer (some ⟨g, 0, none⟩)] W fun en w' => en = .returned (.agg (tkc t).toArray) /\ (∃ v, RC W0 pm g e w' { r with at_ := t, rest := ts } { q with rv := v }) /\ ∀ k, k < W.heap.size -> k ≠ g -> w'.heap[k]? = W.heap[k]? := by
 obtain ⟨p', c', hv', hcap, hsl⟩ := h.rest.ex
 rw [hn] at hv' hcap hsl
 rw [hv] at hv'
 simp only [Value.slice.injEq] at hv'
 obtain ⟨rfl, _, rfl⟩ := hv'
 obtain ⟨b', o', eb, hcell⟩ := hsl 0 t rfl
 simp only [Option.some.injEq, Addr.mk.injEq] at eb
 obtain ⟨rfl, rfl, _⟩ := eb
 have hold := h.old
 have a0 : W0.cell? ⟨b, o, none⟩ = some (.int .i64 t.k) := by simpa using hcell 0 _ rfl
 have a1 : W0.cell? ⟨b, o + 1, none⟩ = some (.string t.t) := by simpa using hcell 1 _ rfl
 have a2 : W0.cell? ⟨b, o + 2, none⟩ = some (.int .u16 t.v) := by simpa using hcell 2 _ rfl
 have a3 : W0.cell? ⟨b, o + 3, none⟩ = some (.int .i64 t.p.1) := by simpa using hcell 3 _ rfl
 have a4 : W0.cell? ⟨b, o + 4, none⟩ = some (.int .i64 t.p.2) := by simpa using hcell 4 _ rfl
 have hbl : b < W0.heap.size := World.block_lt_of_cell? W0 _ a0
 have hls : S.Ls tkc 5 W0 (.slice (some ⟨b, o, none⟩) ts.length (c - 1)) ts := by
  refine .inr ⟨_, _, rfl, by simp at hcap; omega, fun i x hx => ?_⟩
  obtain ⟨b2, o2, e2, hc2⟩ := hsl (i + 1) x (by simpa using hx)
  simp only [Option.some.injEq, Addr.mk.injEq] at e2
  obtain ⟨rfl, rfl, _⟩ := e2
  have hi : i < ts.length := (List.getElem?_eq_some_iff.1 hx).1
  simp at hcap; omega
 obtain ⟨W1, hW1⟩ : ∃ W1, W.alloc (.cells #[.int .i64 0, .string ⟨#[]⟩, .int .u16 0, .int .i64 0, .int .i64 0] 53) = W1 := ⟨_, rfl⟩
 have hB : Below W.heap.size W W1 := by rw [<- hW1]; exact (Below.refl _ _).alloc (Nat.le_refl _) _
 have hnew : W1.heap[W.heap.size]? = some (.cells #[.int .i64 0, .string ⟨#[]⟩, .int .u16 0, .int .i64 0, .int .i64 0] 53 (0, 0)) := by rw [<- hW1]; exact heap_alloc_new W _
 have hR := h.next hB
 have hgl := h.lt
 have hBg : Below W0.heap.size W0 W1 := hR.bel
 have HR := hid (And.intro hR (And.intro hnew hls))
 have c0 := (rd_cells hR.blk).1
 rw [hv] at c0
 obtain ⟨n1, hn1⟩ : ∃ n1, ts.length + 1 = n1 := ⟨_, rfl⟩
 have hn2 : n1 <= c := by simp at hcap; omega
 have i1 : (1 : Int) <= (n1 : Int) := by omega
 have i0 : ¬ (n1 : Int) = 0 := by omega
 have i2 : (n1 : Int) <= c := by omega
 have i3 : (0 : Int) < (n1 : Int) := by omega
 have i4 : 0 < n1 := by omega
 have i5 : 1 <= n1 := by omega
 have Hv := hid (And.intro hv hn)
 have hz : n1 - 1 = ts.length := by omega
 rw [hn1] at c0
 have d0 : W1.drew.cell? ⟨b, o, none⟩ = some (.int .i64 t.k) := (hBg.cell hbl).trans a0
 have d1 : W1.drew.cell? ⟨b, o + 1, none⟩ = some (.string t.t) := (hBg.cell hbl).trans a1
 have d2 : W1.drew.cell? ⟨b, o + 2, none⟩ = some (.int .u16 t.v) := (hBg.cell hbl).trans a2
 have d3 : W1.drew.cell? ⟨b, o + 3, none⟩ = some (.int .i64 t.p.1) := (hBg.cell hbl).trans a3
 have d4 : W1.drew.cell? ⟨b, o + 4, none⟩ = some (.int .i64 t.p.2) := (hBg.cell hbl).trans a4
 have c0d : W1.drew.cell? ⟨g, 0, none⟩ = some (.slice (some ⟨b, o, none⟩) n1 c) := c0
 have Hn1 := hid (And.intro hn1 hn2)
 have Hz := hid hz
 have Hgl := hid (And.intro hgl hold)
 have HS0 := hid (And.intro h (fun (k : Nat) (hk : k < W.heap.size) => show W1.drew.heap[k]? = W.heap[k]? from hB.block k hk))
 clear hcell hsl a0 a1 a2 a3 a4 hR hls hnew hB hBg hn1 hn2 hz hcap hgl hold hbl h hv hn
 go_enter Tryz.func75, Tryz.ntmps75
 go_upto_region 3 with fail
 try rw [hW1]
 clear hW1 c0 i0
 refine wp_region_drop [15, 18] (S := fun wz : World => wz.cell? ⟨g, 0, none⟩ = some (.slice (some ⟨b, o, none⟩) n1 c) /\ wz.cell? ⟨b, o, none⟩ = some (.int .i64 t.k) /\ wz.cell? ⟨b, o + 1, none⟩ = some (.string t.t) /\ wz.cell? ⟨b, o + 2, none⟩ = some (.int .u16 t.v) /\ wz.cell? ⟨b, o + 3, none⟩ = some (.int .i64 t.p.1) /\ wz.cell? ⟨b, o + 4, none⟩ = some (.int .i64 t.p.2)) (by kernel_rfl) ⟨c0d, d0, d1, d2, d3, d4⟩ (fun hHeld => ?_)
 have hR : RC W0 pm g e W1.drew r q := HR.out.1.next ⟨rfl, rfl, rfl, Nat.le_refl _, fun _ _ => rfl⟩
 have HS := HS0
 clear HS0
 have hnw : W1.drew.heap[W.heap.size]? = some (.cells #[.int .i64 0, .string ⟨#[]⟩, .int .u16 0, .int .i64 0, .int .i64 0] 53 (0, 0)) := HR.out.2.1
 clear c0d d0 d1 d2 d3 d4
 generalize W1.drew = y0 at *
 refine D.zP (is := [0, 1, 2, 3, 4, 8, 9, 10]) ?_
 iterate 8
  refine D.yP (v := ?_) rfl (by kernel_rfl) (fun c a w h => h) (by rfl) ?_ (fun _ => hHeld) ?_
  rotate_left
  ·(intro w hSw; clear hSw; go_simp; try with_reducible rfl)
  simp only [D.pts]
 refine D.eP ?_
 refine D.xT 5 (v := ?_) rfl (by kernel_rfl) (fun c a w h => h) (by rfl) ?_ hHeld ?_
 rotate_left
 ·(intro w hSw; (try dsimp only at hSw); go_simp; try with_reducible rfl)
 simp only [D.pts]
 refine D.xP 6 (v := ?_) rfl (by kernel_rfl) (fun c a w h => h) (by rfl) ?_ (fun _ => hHeld) ?_
 rotate_left
 ·(intro w hSw; clear hSw; go_simp; try with_reducible rfl)
 simp only [D.pts]
 refine D.zT (is := [7, 11]) ?_
 iterate 2
  refine D.yT (v := ?_) rfl (by kernel_rfl) (fun c a w h => h) (by rfl) ?_ hHeld ?_
  rotate_left
  ·(intro w hSw; (try dsimp only at hSw); go_simp; try with_reducible rfl)
  simp only [D.pts]
 refine D.eT ?_
 refine D.zP (is := [12, 13, 14]) ?_
 iterate 3
  refine D.yP (v := ?_) rfl (by kernel_rfl) (fun c a w h => h) (by rfl) ?_ (fun _ => hHeld) ?_
  rotate_left
  ·(intro w hSw; clear hSw; go_simp; try with_reducible rfl)
  simp only [D.pts]
 refine D.eP ?_
 obtain ⟨x0, x1, x2, x3, x4, x5, x6, x7, x8, x9, x10, x11, x12, x13, x14⟩ := rd_cells hR.blk
 have f7 := S.frozen_of y0 g 7 _ _ hR.blk
 have f8 := S.frozen_of y0 g 8 _ _ hR.blk
 have f9 := S.frozen_of y0 g 9 _ _ hR.blk
 have f10 := S.frozen_of y0 g 10 _ _ hR.blk
 have f11 := S.frozen_of y0 g 11 _ _ hR.blk
 clear x0 x1 x2 x3 x4 x5 x6 x12 x13 x14
 refine wpD_ready (rs := [15]) (by kernel_rfl) (by simp) ?_
 refine AllD.late rfl (by kernel_rfl) (fun K hK => ?_)
 go_simp
 refine hK.out _ _ ?_
 clear hK K
 try simp only [D.pts]
 obtain ⟨y1, hy1⟩ : ∃ y1, ((((y0.setCell ⟨g, 7, none⟩ (.int .i64 t.k)).setCell ⟨g, 8, none⟩ (.string t.t)).setCell ⟨g, 9, none⟩ (.int .u16 t.v)).setCell ⟨g, 10, none⟩ (.int .i64 t.p.1)).setCell ⟨g, 11, none⟩ (.int .i64 t.p.2) = y1 := ⟨_, rfl⟩
 have b1 : y1.heap[g]? = some (.cells (rdc e { r with at_ := t } q).toArray RD (0, 0)) := by
  have h7 := heap_setCell_same y0 g 7 _ _ (.int .i64 t.k) hR.blk
  have h8 := heap_setCell_same _ g 8 _ _ (.string t.t) h7
  have h9 := heap_setCell_same _ g 9 _ _ (.int .u16 t.v) h8
  have h10 := heap_setCell_same _ g 10 _ _ (.int .i64 t.p.1) h9
  have h11 := heap_setCell_same _ g 11 _ _ (.int .i64 t.p.2) h10
  rw [<- hy1]
  exact h11
 have o1 : ∀ k, k ≠ g -> y1.heap[k]? = y0.heap[k]? := fun k hk => by
  rw [<- hy1, heap_setCell_other _ ⟨g, 11, none⟩ k _ hk, heap_setCell_other _ ⟨g, 10, none⟩ k _ hk, heap_setCell_other _ ⟨g, 9, none⟩ k _ hk, heap_setCell_other _ ⟨g, 8, none⟩ k _ hk, heap_setCell_other _ ⟨g, 7, none⟩ k _ hk]
 have bel1 : Below W0.heap.size W0 y1 := by
  rw [<- hy1]
  exact ((((hR.bel.setCell (p := ⟨g, 7, none⟩) Hgl.out.2 _).setCell (p := ⟨g, 8, none⟩) Hgl.out.2 _).setCell (p := ⟨g, 9, none⟩) Hgl.out.2 _).setCell (p := ⟨g, 10, none⟩) Hgl.out.2 _).setCell (p := ⟨g, 11, none⟩) Hgl.out.2 _
 try rw [hy1]
 clear hy1 x7 x8 x9 x10 x11 f7 f8 f9 f10 f11 hHeld
 have x0 := (rd_cells b1).1
 have f0 := S.frozen_of y1 g 0 _ _ b1
 have HK := hid (And.intro hR (And.intro hnw (And.intro b1 (And.intro o1 bel1))))
 clear hR hnw b1 o1 bel1
 refine wpD_takeP (i := 16) (v := ?_) rfl (by kernel_rfl) (by kernel_rfl) (by kernel_rfl) (by kernel_rfl) (fun c a w h => h) (Or.inl ⟨by rfl, ?_⟩) (un_off (by kernel_rfl)) ?_
 rotate_left
 ·(intro w hSw; clear hSw; go_simp; try with_reducible rfl)
 simp only [D.pts]
 refine wpD_takeP (i := 17) (v := ?_) rfl (by kernel_rfl) (by kernel_rfl) (by kernel_rfl) (by kernel_rfl) (fun c a w h => h) (Or.inl ⟨by rfl, ?_⟩) (un_off (by kernel_rfl)) ?_
 rotate_left
 ·(intro w hSw; clear hSw; go_simp; try with_reducible rfl)
 simp only [D.pts]
 refine wpD_ready (rs := [18]) (by kernel_rfl) (by simp) ?_
 refine AllD.late rfl (by kernel_rfl) (fun K hK => ?_)
 go_simp
 refine hK.out _ _ ?_
 clear hK K
 try simp only [D.pts]
 refine wpD_done (by kernel_rfl) ?_ _
 obtain ⟨y2, hy2⟩ : ∃ y2, y1.setCell ⟨g, 0, none⟩ (.slice (some ⟨b, o, none⟩) (n1 - 1) 0) = y2 := ⟨_, rfl⟩
 obtain ⟨hR, hnw, b1, o1, bel1⟩ := HK.out
 have b2 : y2.heap[g]? = some (.cells (rdc e { r with at_ := t, rest := ts } { q with rv := (.slice (some ⟨b, o, none⟩) (n1 - 1) 0) }).toArray RD (0, 0)) := by
  have h0 := heap_setCell_same y1 g 0 _ _ (.slice (some ⟨b, o, none⟩) (n1 - 1) 0) b1
  rw [<- hy2]
  exact h0
 have o2 : ∀ k, k ≠ g -> y2.heap[k]? = y0.heap[k]? := fun k hk => by
  rw [<- hy2, heap_setCell_other _ ⟨g, 0, none⟩ k _ hk]; exact o1 k hk
 have bel2 : Below W0.heap.size W0 y2 := by rw [<- hy2]; exact bel1.setCell (p := ⟨g, 0, none⟩) Hgl.out.2 _
 try rw [hy2]
 have hne : W.heap.size ≠ g := by have := Hgl.out.1; omega
 have n2 : y2.heap[W.heap.size]? = some (.cells #[.int .i64 0, .string ⟨#[]⟩, .int .u16 0, .int .i64 0, .int .i64 0] 53 (0, 0)) := (o2 _ hne).trans hnw
 obtain ⟨_, _, _, _, _, _, _, x7, x8, x9, x10, x11, _⟩ := rd_cells b2
 have HK2 := hid (And.intro b2 (And.intro o2 bel2))
 clear hR hnw b1 o1 bel1 hy2 x0 f0 b2 o2 bel2
 go_wp2_with (refine wpList_store_row rfl 53 _ _ rfl W.heap.size _ rfl rfl 53 _ n2 (by exact sizeTK) (by rfl) (by simp [Value.oneCell']) ?_)
 have h3 := setRow_heap y2 W.heap.size _ #[.int .i64 t.k, .string t.t, .int .u16 t.v, .int .i64 t.p.1, .int .i64 t.p.2] _ _ n2
 obtain ⟨b2, o2, bel2⟩ := HK2.out
 have hfin : RC W0 pm g e (y2.setRow W.heap.size #[.int .i64 t.k, .string t.t, .int .u16 t.v, .int .i64 t.p.1, .int .i64 t.p.2]) { r with at_ := t, rest := ts } { q with rv := (.slice (some ⟨b, o, none⟩) (n1 - 1) 0) } := by
  refine HS.out.1.put ?_ (fun k hk hkg => ?_) ⟨bel2.os, bel2.tape, bel2.output, by rw [size_setRow]; exact bel2.size, fun k hk => (setRow_other y2 W.heap.size k _ (by have := Hgl.out.1; have := Hgl.out.2; omega)).trans (bel2.block k hk)⟩ rfl rfl ?_ rfl rfl rfl rfl rfl rfl rfl
  ·rw [setRow_other y2 W.heap.size g _ (Ne.symm hne)]; exact b2
  ·rw [setRow_other y2 W.heap.size k _ (by omega), o2 k hkg]; exact HS.out.2 k hk
  ·have := HR.out.2.2
   rw [<- Hz.out] at this
   rw [hc] at this; exact this
 exact bodyPost_ret (results_cell_row rfl _ _ W.heap.size 53 _ (0, 0) _ rfl h3 Tryz.underlying53 rfl sizeTK) rfl ⟨rfl, ⟨_, hfin⟩, fun k hk hkg => by rw [setRow_other y2 W.heap.size k _ (by omega), o2 k hkg]; exact HS.out.2 k hk⟩
theorem next_2 (W0 : World) (pm : Px) (g : Nat) (e : Ps) (W : World) (r : Rd) (q : Rv) (h : RC W0 pm g e W r q) (t : Tk) (ts : List Tk) (hn : r.rest = t :: ts) (b o c : Nat) (hv : q.rv = .slice (some ⟨b, o, none⟩) (ts.length + 1) c) (hc : ¬ c = 1) :
  Calls Tryz.prog 75 #[.pointer (some ⟨g, 0, none⟩)] W fun en w' => en = .returned (.agg (tkc t).toArray) /\ (∃ v, RC W0 pm g e w' { r with at_ := t, rest := ts } { q with rv := v }) /\ ∀ k, k < W.heap.size -> k ≠ g -> w'.heap[k]? = W.heap[k]? := by
 obtain ⟨p', c', hv', hcap, hsl⟩ := h.rest.ex
 rw [hn] at hv' hcap hsl
 rw [hv] at hv'
 simp only [Value.slice.injEq] at hv'
 obtain ⟨rfl, _, rfl⟩ := hv'
 obtain ⟨b', o', eb, hcell⟩ := hsl 0 t rfl
 simp only [Option.some.injEq, Addr.mk.injEq] at eb
 obtain ⟨rfl, rfl, _⟩ := eb
 have hold := h.old
 have a0 : W0.cell? ⟨b, o, none⟩ = some (.int .i64 t.k) := by simpa using hcell 0 _ rfl
 have a1 : W0.cell? ⟨b, o + 1, none⟩ = some (.string t.t) := by simpa using hcell 1 _ rfl
 have a2 : W0.cell? ⟨b, o + 2, none⟩ = some (.int .u16 t.v) := by simpa using hcell 2 _ rfl
 have a3 : W0.cell? ⟨b, o + 3, none⟩ = some (.int .i64 t.p.1) := by simpa using hcell 3 _ rfl
 have a4 : W0.cell? ⟨b, o + 4, none⟩ = some (.int .i64 t.p.2) := by simpa using hcell 4 _ rfl
 have hbl : b < W0.heap.size := World.block_lt_of_cell? W0 _ a0
 have hls : S.Ls tkc 5 W0 (.slice (some ⟨b, o + 5, none⟩) ts.length (c - 1)) ts := by
  refine .inr ⟨_, _, rfl, by simp at hcap; omega, fun i x hx => ?_⟩
  obtain ⟨b2, o2, e2, hc2⟩ := hsl (i + 1) x (by simpa using hx)
  simp only [Option.some.injEq, Addr.mk.injEq] at e2
  obtain ⟨rfl, rfl, _⟩ := e2
  have hi : i < ts.length := (List.getElem?_eq_some_iff.1 hx).1
  refine ⟨b, o + 5, rfl, fun j u hj => ?_⟩
  have := hc2 j u hj
  rw [show o + 5 + i * 5 + j = o + (i + 1) * 5 + j by omega]
  exact this
 obtain ⟨W1, hW1⟩ : ∃ W1, W.alloc (.cells #[.int .i64 0, .string ⟨#[]⟩, .int .u16 0, .int .i64 0, .int .i64 0] 53) = W1 := ⟨_, rfl⟩
 have hB : Below W.heap.size W W1 := by rw [<- hW1]; exact (Below.refl _ _).alloc (Nat.le_refl _) _
 have hnew : W1.heap[W.heap.size]? = some (.cells #[.int .i64 0, .string ⟨#[]⟩, .int .u16 0, .int .i64 0, .int .i64 0] 53 (0, 0)) := by rw [<- hW1]; exact heap_alloc_new W _
 have hR := h.next hB
 have hgl := h.lt
 have hBg : Below W0.heap.size W0 W1 := hR.bel
 have HR := hid (And.intro hR (And.intro hnew hls))
 have c0 := (rd_cells hR.blk).1
 rw [hv] at c0
 obtain ⟨n1, hn1⟩ : ∃ n1, ts.length + 1 = n1 := ⟨_, rfl⟩
 have hn2 : n1 <= c := by simp at hcap; omega
 have i1 : (1 : Int) <= (n1 : Int) := by omega
 have i0 : ¬ (n1 : Int) = 0 := by omega
 have i2 : (n1 : Int) <= c := by omega
 have i3 : (0 : Int) < (n1 : Int) := by omega
 have i4 : 0 < n1 := by omega
 have i5 : 1 <= n1 := by omega
 have Hv := hid (And.intro hv hn)
 have hz : n1 - 1 = ts.length := by omega
 rw [hn1] at c0
 have d0 : W1.drew.cell? ⟨b, o, none⟩ = some (.int .i64 t.k) := (hBg.cell hbl).trans a0
 have d1 : W1.drew.cell? ⟨b, o + 1, none⟩ = some (.string t.t) := (hBg.cell hbl).trans a1
 have d2 : W1.drew.cell? ⟨b, o + 2, none⟩ = some (.int .u16 t.v) := (hBg.cell hbl).trans a2
 have d3 : W1.drew.cell? ⟨b, o + 3, none⟩ = some (.int .i64 t.p.1) := (hBg.cell hbl).trans a3
 have d4 : W1.drew.cell? ⟨b, o + 4, none⟩ = some (.int .i64 t.p.2) := (hBg.cell hbl).trans a4
 have c0d : W1.drew.cell? ⟨g, 0, none⟩ = some (.slice (some ⟨b, o, none⟩) n1 c) := c0
 have Hn1 := hid (And.intro hn1 hn2)
 have Hz := hid hz
 have Hgl := hid (And.intro hgl hold)
 have HS0 := hid (And.intro h (fun (k : Nat) (hk : k < W.heap.size) => show W1.drew.heap[k]? = W.heap[k]? from hB.block k hk))
 clear hcell hsl a0 a1 a2 a3 a4 hR hls hnew hB hBg hn1 hn2 hz hcap hgl hold hbl h hv hn
 go_enter Tryz.func75, Tryz.ntmps75
 go_upto_region 3 with fail
 try rw [hW1]
 clear hW1 c0 i0
 refine wp_region_drop [15, 18] (S := fun wz : World => wz.cell? ⟨g, 0, none⟩ = some (.slice (some ⟨b, o, none⟩) n1 c) /\ wz.cell? ⟨b, o, none⟩ = some (.int .i64 t.k) /\ wz.cell? ⟨b, o + 1, none⟩ = some (.string t.t) /\ wz.cell? ⟨b, o + 2, none⟩ = some (.int .u16 t.v) /\ wz.cell? ⟨b, o + 3, none⟩ = some (.int .i64 t.p.1) /\ wz.cell? ⟨b, o + 4, none⟩ = some (.int .i64 t.p.2)) (by kernel_rfl) ⟨c0d, d0, d1, d2, d3, d4⟩ (fun hHeld => ?_)
 have hR : RC W0 pm g e W1.drew r q := HR.out.1.next ⟨rfl, rfl, rfl, Nat.le_refl _, fun _ _ => rfl⟩
 have HS := HS0
 clear HS0
 have hnw : W1.drew.heap[W.heap.size]? = some (.cells #[.int .i64 0, .string ⟨#[]⟩, .int .u16 0, .int .i64 0, .int .i64 0] 53 (0, 0)) := HR.out.2.1
 clear c0d d0 d1 d2 d3 d4
 generalize W1.drew = y0 at *
 refine D.zP (is := [0, 1, 2, 3, 4, 8, 9, 10]) ?_
 iterate 8
  refine D.yP (v := ?_) rfl (by kernel_rfl) (fun c a w h => h) (by rfl) ?_ (fun _ => hHeld) ?_
  rotate_left
  ·(intro w hSw; clear hSw; go_simp; try with_reducible rfl)
  simp only [D.pts]
 refine D.eP ?_
 refine D.xT 5 (v := ?_) rfl (by kernel_rfl) (fun c a w h => h) (by rfl) ?_ hHeld ?_
 rotate_left
 ·(intro w hSw; (try dsimp only at hSw); go_simp; try with_reducible rfl)
 simp only [D.pts]
 refine D.xP 6 (v := ?_) rfl (by kernel_rfl) (fun c a w h => h) (by rfl) ?_ (fun _ => hHeld) ?_
 rotate_left
 ·(intro w hSw; clear hSw; go_simp; try with_reducible rfl)
 simp only [D.pts]
 refine D.zT (is := [7, 11]) ?_
 iterate 2
  refine D.yT (v := ?_) rfl (by kernel_rfl) (fun c a w h => h) (by rfl) ?_ hHeld ?_
  rotate_left
  ·(intro w hSw; (try dsimp only at hSw); go_simp; try with_reducible rfl)
  simp only [D.pts]
 refine D.eT ?_
 refine D.zP (is := [12, 13, 14]) ?_
 iterate 3
  refine D.yP (v := ?_) rfl (by kernel_rfl) (fun c a w h => h) (by rfl) ?_ (fun _ => hHeld) ?_
  rotate_left
  ·(intro w hSw; clear hSw; go_simp; try with_reducible rfl)
  simp only [D.pts]
 refine D.eP ?_
 obtain ⟨x0, x1, x2, x3, x4, x5, x6, x7, x8, x9, x10, x11, x12, x13, x14⟩ := rd_cells hR.blk
 have f7 := S.frozen_of y0 g 7 _ _ hR.blk
 have f8 := S.frozen_of y0 g 8 _ _ hR.blk
 have f9 := S.frozen_of y0 g 9 _ _ hR.blk
 have f10 := S.frozen_of y0 g 10 _ _ hR.blk
 have f11 := S.frozen_of y0 g 11 _ _ hR.blk
 clear x0 x1 x2 x3 x4 x5 x6 x12 x13 x14
 refine wpD_ready (rs := [15]) (by kernel_rfl) (by simp) ?_
 refine AllD.late rfl (by kernel_rfl) (fun K hK => ?_)
 go_simp
 refine hK.out _ _ ?_
 clear hK K
 try simp only [D.pts]
 obtain ⟨y1, hy1⟩ : ∃ y1, ((((y0.setCell ⟨g, 7, none⟩ (.int .i64 t.k)).setCell ⟨g, 8, none⟩ (.string t.t)).setCell ⟨g, 9, none⟩ (.int .u16 t.v)).setCell ⟨g, 10, none⟩ (.int .i64 t.p.1)).setCell ⟨g, 11, none⟩ (.int .i64 t.p.2) = y1 := ⟨_, rfl⟩
 have b1 : y1.heap[g]? = some (.cells (rdc e { r with at_ := t } q).toArray RD (0, 0)) := by
  have h7 := heap_setCell_same y0 g 7 _ _ (.int .i64 t.k) hR.blk
  have h8 := heap_setCell_same _ g 8 _ _ (.string t.t) h7
  have h9 := heap_setCell_same _ g 9 _ _ (.int .u16 t.v) h8
  have h10 := heap_setCell_same _ g 10 _ _ (.int .i64 t.p.1) h9
  have h11 := heap_setCell_same _ g 11 _ _ (.int .i64 t.p.2) h10
  rw [<- hy1]
  exact h11
 have o1 : ∀ k, k ≠ g -> y1.heap[k]? = y0.heap[k]? := fun k hk => by
  rw [<- hy1, heap_setCell_other _ ⟨g, 11, none⟩ k _ hk, heap_setCell_other _ ⟨g, 10, none⟩ k _ hk, heap_setCell_other _ ⟨g, 9, none⟩ k _ hk, heap_setCell_other _ ⟨g, 8, none⟩ k _ hk, heap_setCell_other _ ⟨g, 7, none⟩ k _ hk]
 have bel1 : Below W0.heap.size W0 y1 := by
  rw [<- hy1]
  exact ((((hR.bel.setCell (p := ⟨g, 7, none⟩) Hgl.out.2 _).setCell (p := ⟨g, 8, none⟩) Hgl.out.2 _).setCell (p := ⟨g, 9, none⟩) Hgl.out.2 _).setCell (p := ⟨g, 10, none⟩) Hgl.out.2 _).setCell (p := ⟨g, 11, none⟩) Hgl.out.2 _
 try rw [hy1]
 clear hy1 x7 x8 x9 x10 x11 f7 f8 f9 f10 f11 hHeld
 have x0 := (rd_cells b1).1
 have f0 := S.frozen_of y1 g 0 _ _ b1
 have HK := hid (And.intro hR (And.intro hnw (And.intro b1 (And.intro o1 bel1))))
 clear hR hnw b1 o1 bel1
 refine wpD_takeP (i := 16) (v := ?_) rfl (by kernel_rfl) (by kernel_rfl) (by kernel_rfl) (by kernel_rfl) (fun c a w h => h) (Or.inl ⟨by rfl, ?_⟩) (un_off (by kernel_rfl)) ?_
 rotate_left
 ·(intro w hSw; clear hSw; go_simp; try with_reducible rfl)
 simp only [D.pts]
 refine wpD_takeP (i := 17) (v := ?_) rfl (by kernel_rfl) (by kernel_rfl) (by kernel_rfl) (by kernel_rfl) (fun c a w h => h) (Or.inl ⟨by rfl, ?_⟩) (un_off (by kernel_rfl)) ?_
 rotate_left
 ·(intro w hSw; clear hSw; go_simp; try with_reducible rfl)
 simp only [D.pts]
 refine wpD_ready (rs := [18]) (by kernel_rfl) (by simp) ?_
 refine AllD.late rfl (by kernel_rfl) (fun K hK => ?_)
 go_simp
 refine hK.out _ _ ?_
 clear hK K
 try simp only [D.pts]
 refine wpD_done (by kernel_rfl) ?_ _
 obtain ⟨y2, hy2⟩ : ∃ y2, y1.setCell ⟨g, 0, none⟩ (.slice (some ⟨b, o + 5, none⟩) (n1 - 1) (c - 1)) = y2 := ⟨_, rfl⟩
 obtain ⟨hR, hnw, b1, o1, bel1⟩ := HK.out
 have b2 : y2.heap[g]? = some (.cells (rdc e { r with at_ := t, rest := ts } { q with rv := (.slice (some ⟨b, o + 5, none⟩) (n1 - 1) (c - 1)) }).toArray RD (0, 0)) := by
  have h0 := heap_setCell_same y1 g 0 _ _ (.slice (some ⟨b, o + 5, none⟩) (n1 - 1) (c - 1)) b1
  rw [<- hy2]
  exact h0
 have o2 : ∀ k, k ≠ g -> y2.heap[k]? = y0.heap[k]? := fun k hk => by
  rw [<- hy2, heap_setCell_other _ ⟨g, 0, none⟩ k _ hk]; exact o1 k hk
 have bel2 : Below W0.heap.size W0 y2 := by rw [<- hy2]; exact bel1.setCell (p := ⟨g, 0, none⟩) Hgl.out.2 _
 try rw [hy2]
 have hne : W.heap.size ≠ g := by have := Hgl.out.1; omega
 have n2 : y2.heap[W.heap.size]? = some (.cells #[.int .i64 0, .string ⟨#[]⟩, .int .u16 0, .int .i64 0, .int .i64 0] 53 (0, 0)) := (o2 _ hne).trans hnw
 obtain ⟨_, _, _, _, _, _, _, x7, x8, x9, x10, x11, _⟩ := rd_cells b2
 have HK2 := hid (And.intro b2 (And.intro o2 bel2))
 clear hR hnw b1 o1 bel1 hy2 x0 f0 b2 o2 bel2
 go_wp2_with (refine wpList_store_row rfl 53 _ _ rfl W.heap.size _ rfl rfl 53 _ n2 (by exact sizeTK) (by rfl) (by simp [Value.oneCell']) ?_)
 have h3 := setRow_heap y2 W.heap.size _ #[.int .i64 t.k, .string t.t, .int .u16 t.v, .int .i64 t.p.1, .int .i64 t.p.2] _ _ n2
 obtain ⟨b2, o2, bel2⟩ := HK2.out
 have hfin : RC W0 pm g e (y2.setRow W.heap.size #[.int .i64 t.k, .string t.t, .int .u16 t.v, .int .i64 t.p.1, .int .i64 t.p.2]) { r with at_ := t, rest := ts } { q with rv := (.slice (some ⟨b, o + 5, none⟩) (n1 - 1) (c - 1)) } := by
  refine HS.out.1.put ?_ (fun k hk hkg => ?_) ⟨bel2.os, bel2.tape, bel2.output, by rw [size_setRow]; exact bel2.size, fun k hk => (setRow_other y2 W.heap.size k _ (by have := Hgl.out.1; have := Hgl.out.2; omega)).trans (bel2.block k hk)⟩ rfl rfl ?_ rfl rfl rfl rfl rfl rfl rfl
  ·rw [setRow_other y2 W.heap.size g _ (Ne.symm hne)]; exact b2
  ·rw [setRow_other y2 W.heap.size k _ (by omega), o2 k hkg]; exact HS.out.2 k hk
  ·have := HR.out.2.2
   rw [<- Hz.out] at this
   exact this
 exact bodyPost_ret (results_cell_row rfl _ _ W.heap.size 53 _ (0, 0) _ rfl h3 Tryz.underlying53 rfl sizeTK) rfl ⟨rfl, ⟨_, hfin⟩, fun k hk hkg => by rw [setRow_other y2 W.heap.size k _ (by omega), o2 k hkg]; exact HS.out.2 k hk⟩
theorem next_c (W0 : World) (pm : Px) (g : Nat) (e : Ps) (W : World) (r : Rd) (q : Rv) (h : RC W0 pm g e W r q) (t : Tk) (ts : List Tk) (hn : r.rest = t :: ts) :
  Calls Tryz.prog 75 #[.pointer (some ⟨g, 0, none⟩)] W fun en w' => en = .returned (.agg (tkc t).toArray) /\ (∃ v, RC W0 pm g e w' { r with at_ := t, rest := ts } { q with rv := v }) /\ ∀ k, k < W.heap.size -> k ≠ g -> w'.heap[k]? = W.heap[k]? := by
 obtain ⟨p, c, hv, _, hsl⟩ := h.rest.ex
 rw [hn] at hv hsl
 obtain ⟨b, o, rfl, _⟩ := hsl 0 t rfl
 by_cases hc : c = 1
 ·exact next_1 W0 pm g e W r q h t ts hn b o c hv hc
 ·exact next_2 W0 pm g e W r q h t ts hn b o c hv hc
theorem next_any (W0 : World) (pm : Px) (g : Nat) (e : Ps) (W : World) (r : Rd) (q : Rv) (h : RS W0 pm g e W r q) :
  Calls Tryz.prog 75 #[.pointer (some ⟨g, 0, none⟩)] W (RO W0 pm g e (fun r => .agg (tkc r.at_).toArray) (next e r)) := by
 unfold next
 cases hn : r.rest with
 | nil =>
  refine (next_no W0 pm g e W r q h.core hn).mono ?_
  rintro en w' ⟨rfl, hb⟩
  exact ⟨rfl, h.core.err hb⟩
 | cons t ts =>
  refine (next_c W0 pm g e W r q h.core t ts hn).mono ?_
  rintro en w' ⟨rfl, ⟨v, hv⟩, hk⟩
  exact ⟨rfl, _, hv.live (h.ns.kept fun b hb => hk b (h.ns.lt b hb) (by have := h.cg b hb; omega))⟩
end Go.Proofs.YtdnklgceghllaaaGreatDoor.D
