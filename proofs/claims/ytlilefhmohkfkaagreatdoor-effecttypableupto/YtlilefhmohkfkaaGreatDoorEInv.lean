import Derived.Test.YtlilefhmohkfkaaGreatDoorECall
namespace Go.Proofs.YtlilefhmohkfkaaGreatDoor.E
open Go.Proofs.YtlilefhmohkfkaaGreatDoor.Y (Nd Df Ps)
set_option linter.unusedVariables false
set_option linter.unusedSimpArgs false
set_option maxHeartbeats 1000000
structure WI (w : Wk) : Prop where
 i0 : 0 <= w.i
 i1 : w.i <= 256
 d0 : 0 <= w.d
 d1 : w.d <= 256
 r0 : 0 <= w.r
 r1 : w.r <= 128
 l0 : -256 <= w.lf
 l1 : w.lf <= 512
 l2 : w.nv = false -> 0 <= w.i + w.lf
structure SI (w : Wk) (s : St) : Prop where
 h0 : 0 <= w.i + s.h
 h1 : s.h <= 512
 o1 : s.own.length <= 128
def XI (x : X) : Prop := WI x.1 /\ SI x.1 x.2
def Inv (f : X -> Re) : Prop := ∀ x y, XI x -> f x = .ok y -> XI y /\ x.1.i <= y.1.i
theorem XI.hh {x : X} (h : XI x) : -1000 <= x.2.h /\ x.2.h <= 1000 := by have := h.1.i1; have := h.2.h0; have := h.2.h1; omega
theorem XI.hl {x : X} (h : XI x) : x.2.own.length <= 1000 := by have := h.2.o1; omega
theorem SI.up {w w' : Wk} {s : St} (h : SI w s) (k : w.i <= w'.i) : SI w' s := ⟨by have := h.h0; omega, h.h1, h.o1⟩
theorem xi_dead {w : Wk} (h : WI w) : XI (w, ⟨true, 0, []⟩) := ⟨h, by have := h.i0; simpa using this, by simp, by simp⟩
theorem xi_start : XI (w0, s0) := ⟨⟨by decide, by decide, by decide, by decide, by decide, by decide, by decide, by decide, by decide⟩, by decide, by decide, by decide⟩
theorem grow_inv {w w' : Wk} {i d r : Int} {p : Ps} (h : WI w) (e : grow w i d r p = .ok w') : WI w' /\ w.i <= w'.i /\ i <= w'.i /\ d <= w'.d /\ r <= w'.r := by
 unfold grow at e
 split at e
 ·rename_i hm
  cases e
  unfold may at hm
  simp only [Bool.and_eq_true, decide_eq_true_eq] at hm
  obtain ⟨m1, m2, m3⟩ := hm
  unfold grown at *
  simp only at *
  have a1 := h.i0; have a2 := h.d0; have a3 := h.r0
  refine ⟨⟨by simp only; omega, m1, by simp only; omega, m2, by simp only; omega, m3, h.l0, h.l1, fun hn => by have := h.l2 hn; simp only; omega⟩, by omega, by omega, by omega, by omega⟩
 ·cases e
theorem step_inv (a b : Int) (p : Ps) (ha : 0 <= a) (hb : 0 <= b) : Inv fun x => step x a b p := by
 rintro ⟨w, s⟩ y hx e
 unfold step at e
 simp only at e
 split at e
 ·cases e
 ·rename_i w' hg
  cases e
  obtain ⟨h1, h2, h3, h4, h5⟩ := grow_inv hx.1 hg
  have := h1.d1
  exact ⟨⟨h1, by simp only; omega, by simp only; omega, hx.2.o1⟩, h2⟩
theorem put_inv (p : Ps) (ks : List UInt8) : Inv fun x => put x p ks := by
 rintro ⟨w, s⟩ y hx e
 unfold put at e
 simp only at e
 split at e
 ·cases e
 ·rename_i w' hg
  cases e
  obtain ⟨h1, h2, h3, h4, h5⟩ := grow_inv hx.1 hg
  have := h1.r1
  have a1 := hx.2.h0
  simp only at a1 h2
  exact ⟨⟨h1, by simp only; omega, hx.2.h1, by simp only [List.length_append]; omega⟩, h2⟩
theorem ri_all (x : Nat) : 0 <= P.ri x /\ 0 <= P.ro x := by
 by_cases h : x < 64
 ·have := ri_ro x h; omega
 ·constructor
  ·unfold P.ri; split <;> first | omega | decide
  ·unfold P.ro; split <;> first | omega | decide
theorem prim_inv (op : Int) (p : Ps) : Inv (prim op p) := by
 rintro x y hx e
 unfold prim at e
 split at e
 ·cases e
 ·split at e
  ·cases e
  ·rename_i z hz
   obtain ⟨hz1, hz2⟩ := step_inv _ _ p (ri_all _).1 (ri_all _).2 x z hx hz
   split at e
   ·obtain ⟨h1, h2⟩ := put_inv p [4] z y hz1 e
    exact ⟨h1, by omega⟩
   ·split at e
    ·cases e
     exact ⟨⟨hz1.1, hz1.2.h0, hz1.2.h1, by have := hz1.2.o1; simp only [List.length_dropLast]; omega⟩, hz2⟩
    ·split at e
     ·cases e
      exact ⟨⟨hz1.1, hz1.2.h0, hz1.2.h1, hz1.2.o1⟩, hz2⟩
     ·cases e
      exact ⟨hz1, hz2⟩
theorem call_inv (t : Option Ty) (ht : ∀ t', t = some t' -> TI t') (p : Ps) : Inv (call t p) := by
 rintro ⟨w, s⟩ y hx e
 cases t with
 | none => exact step_inv 0 1 p (by decide) (by decide) _ y hx e
 | some t =>
  simp only [call] at e
  split at e
  ·rename_i he
   obtain ⟨t1, t2, t3, t4, t5, t6, t7, t8⟩ := ht t rfl he
   split at e
   ·cases e
   ·rename_i w' hg
    cases e
    obtain ⟨h1, h2, h3, h4, h5⟩ := grow_inv hx.1 hg
    have := h1.d1
    exact ⟨⟨h1, by simp only; omega, by simp only; omega, hx.2.o1⟩, h2⟩
  ·cases e
theorem leave_inv {s : St} {p : Ps} {w w' : Wk} (h : WI w) (k : SI w s) (e : leave s p w = .ok w') : WI w' /\ w'.i = w.i := by
 unfold leave at e
 split at e
 ·split at e
  ·cases e
   have := k.h0; have := h.i1
   exact ⟨⟨h.i0, h.i1, h.d0, h.d1, h.r0, h.r1, by simp only; omega, k.h1, fun _ => k.h0⟩, rfl⟩
  ·cases e
 ·cases e
theorem run_inv : ∀ (fs : List (X -> Re)), (∀ f ∈ fs, Inv f) -> Inv (run fs)
 | [], _ => fun x y hx e => by rw [run] at e; cases e; exact ⟨hx, by omega⟩
 | f :: r, h => fun x y hx e => by
  rw [run] at e
  split at e
  ·cases e; exact ⟨hx, by omega⟩
  ·split at e
   ·cases e
   ·rename_i z hz
    obtain ⟨h1, h2⟩ := h f (by simp) x z hx hz
    obtain ⟨h3, h4⟩ := run_inv r (fun g hg => h g (by simp [hg])) z y h1 e
    exact ⟨h3, by omega⟩
theorem choice_inv {th el : X -> Re} (h1 : Inv th) (h2 : Inv el) (p : Ps) : Inv (choice th el p) := by
 rintro x y hx e
 unfold choice at e
 split at e
 ·cases e
 ·rename_i z hz
  obtain ⟨z1, z2⟩ := step_inv 1 0 p (by decide) (by decide) x z hx hz
  split at e
  ·cases e
  ·rename_i a ha
   obtain ⟨a1, a2⟩ := h1 z a z1 ha
   split at e
   ·cases e
   ·rename_i b hb
    obtain ⟨b1, b2⟩ := h2 (a.1, z.2) b ⟨a1.1, z1.2.up a2⟩ hb
    simp only at b2
    split at e
    ·cases e; exact ⟨b1, by omega⟩
    ·split at e
     ·cases e; exact ⟨⟨b1.1, a1.2.up b2⟩, by simp only; omega⟩
     ·cases e
theorem until_inv {th : X -> Re} (h1 : Inv th) (p : Ps) : Inv (until_ th p) := by
 rintro x y hx e
 unfold until_ at e
 split at e
 ·cases e
 ·rename_i a ha
  obtain ⟨a1, a2⟩ := h1 x a hx ha
  split at e
  ·cases e; exact ⟨a1, a2⟩
  ·split at e
   ·cases e
   ·rename_i b hb
    obtain ⟨b1, b2⟩ := step_inv 1 0 p (by decide) (by decide) a b a1 hb
    split at e
    ·cases e
    ·cases e; exact ⟨b1, by omega⟩
theorem while_inv {th el : X -> Re} (h1 : Inv th) (h2 : Inv el) (p : Ps) : Inv (while_ th el p) := by
 rintro x y hx e
 unfold while_ at e
 split at e
 ·cases e
 ·rename_i a ha
  obtain ⟨a1, a2⟩ := h1 x a hx ha
  split at e
  ·cases e; exact ⟨a1, a2⟩
  ·split at e
   ·cases e
   ·rename_i b hb
    obtain ⟨b1, b2⟩ := step_inv 1 0 p (by decide) (by decide) a b a1 hb
    split at e
    ·cases e
    ·rename_i c hc
     obtain ⟨c1, c2⟩ := h2 b c b1 hc
     split at e
     ·cases e
     ·cases e; exact ⟨⟨c1.1, b1.2.up c2⟩, by simp only; omega⟩
theorem again_inv {th : X -> Re} (h1 : Inv th) (p : Ps) : Inv (again th p) := by
 rintro x y hx e
 unfold again at e
 split at e
 ·cases e
 ·rename_i a ha
  obtain ⟨a1, a2⟩ := h1 x a hx ha
  split at e
  ·cases e
  ·cases e; exact ⟨xi_dead a1.1, a2⟩
theorem do_inv {th : X -> Re} (h1 : Inv th) (p : Ps) : Inv (do_ th p) := by
 rintro x y hx e
 unfold do_ at e
 split at e
 ·cases e
 ·rename_i a ha
  obtain ⟨a1, a2⟩ := step_inv 2 0 p (by decide) (by decide) x a hx ha
  split at e
  ·cases e
  ·rename_i z hz
   obtain ⟨z1, z2⟩ := put_inv p [2, 3] a z a1 hz
   split at e
   ·cases e
   ·rename_i b hb
    obtain ⟨b1, b2⟩ := h1 z b z1 hb
    split at e
    ·cases e
    ·cases e
     have u := a1.2.up (show a.1.i <= b.1.i by omega)
     exact ⟨⟨b1.1, u.h0, u.h1, u.o1⟩, by simp only; omega⟩
theorem nodeB_inv (kn : ByteArray -> Option Ty) (hk : ∀ s t, kn s = some t -> TI t) (k op : Int) (nm : ByteArray) (p : Ps) {th el : X -> Re} (h1 : Inv th) (h2 : Inv el) : Inv (nodeB kn k op nm p th el) := by
 intro x y hx e
 unfold nodeB at e
 split at e
 ·exact prim_inv op p x y hx e
 split at e
 ·exact step_inv 0 1 p (by decide) (by decide) x y hx e
 split at e
 ·exact call_inv (kn nm) (fun t ht => hk nm t ht) p x y hx e
 split at e
 ·exact choice_inv h1 h2 p x y hx e
 split at e
 ·exact until_inv h1 p x y hx e
 split at e
 ·exact while_inv h1 h2 p x y hx e
 split at e
 ·exact again_inv h1 p x y hx e
 split at e
 ·exact do_inv h1 p x y hx e
 split at e
 ·cases e
 ·rename_i w hw
  cases e
  obtain ⟨a1, a2⟩ := leave_inv hx.1 hx.2 hw
  exact ⟨xi_dead a1, by simp only; omega⟩
theorem node_inv (kn : ByteArray -> Option Ty) (hk : ∀ s t, kn s = some t -> TI t) (n : Nd) : Inv (node kn n) :=
 Nd.ind (P := fun n => Inv (node kn n)) (fun n h1 h2 => by
  rw [node_is]
  refine nodeB_inv kn hk _ _ _ _ (run_inv _ ?_) (run_inv _ ?_)
  ·intro f hf
   obtain ⟨m, hm, rfl⟩ := List.mem_map.1 hf
   exact h1 m hm
  ·intro f hf
   obtain ⟨m, hm, rfl⟩ := List.mem_map.1 hf
   exact h2 m hm) n
theorem body_inv (kn : ByteArray -> Option Ty) (hk : ∀ s t, kn s = some t -> TI t) (l : List Nd) : Inv (body kn l) := run_inv _ fun f hf => by
 obtain ⟨m, hm, rfl⟩ := List.mem_map.1 hf
 exact node_inv kn hk m
theorem known_ti {at_ : R.En} {l : List Ty} (h : ∀ t ∈ l, TI t) (s : ByteArray) (t : Ty) (e : known at_ l s = some t) : TI t := by
 unfold known at e
 split at e
 ·cases e
 ·exact h t (List.mem_of_getElem? e)
open Go.RowKit
open Go.Proofs
open Go.Proofs.YtlilefhmohkfkaaGreatDoor.Y (Nd Df Ps ndc dfc hid)
set_option linter.unusedVariables false
set_option linter.unusedSimpArgs false
set_option maxHeartbeats 2000000
set_option maxRecDepth 100000
theorem again_any (n : Nd) (q1 q2 : Option Addr) (d1 d2 : Nat) (w : Wk) (s : St) (hx : XI (w, s)) (g : Nat) (mv av : Value) (W : World) (h : EW W g mv av w) (th : X -> Re) (i_th : Inv th) (h_th : (∀ (x : X) (V : World), XI x -> EW V g mv av x.1 -> Gw g W V -> Calls Tryz.prog 67 #[.pointer (some ⟨g, 0, none⟩), .slice q1 n.th.length d1, .agg (stc x.2).toArray] V (EO V g mv av (fun s => .agg (stc s).toArray) (th x)))) :
  Calls Tryz.prog 105 #[.pointer (some ⟨g, 0, none⟩), .agg #[.int .i64 n.k, .int .i64 n.op, .int .u16 n.v, .string n.nm, .slice q1 n.th.length d1, .slice q2 n.el.length d2, .bool n.has, .int .i64 n.p.1, .int .i64 n.p.2], .agg (stc s).toArray] W (EO W g mv av (fun s => .agg (stc s).toArray) (again th n.p (w, s))) := by
 obtain ⟨W0, W1, W2, hW0, hW1, hW2, hB, hA, hF⟩ := box_nsr n q1 q2 d1 d2 s g mv av w W h
 have HA := hid hA
 have HF := hid hF
 have HG := hid (Gw.of (g := g) hB)
 have HXI := hid hx
 have H_th := hid h_th
 have I_th := hid i_th
 clear hA hB hF h hx h_th i_th
 have HR : Y.Hd (again th n.p (w, s) = match th (w, s) with | .error e => .error e | .ok a => (match back a.2 s n.p with | .error e => .error e | .ok _ => .ok (a.1, (⟨true, 0, []⟩ : St)))) := ⟨rfl⟩
 generalize again th n.p (w, s) = R at *
 have HS : Y.Hd (∀ (wz : World) (kk : Wk), FR wz W.heap.size W0.heap.size W1.heap.size g (ndc n (.slice q1 n.th.length d1) (.slice q2 n.el.length d2)) s mv av kk -> (fun wz : World => wz.cell? ⟨W.heap.size, 4, none⟩ = some (.slice q1 n.th.length d1) /\ wz.cell? ⟨W.heap.size, 7, none⟩ = some (.int .i64 n.p.1) /\ wz.cell? ⟨W.heap.size, 8, none⟩ = some (.int .i64 n.p.2) /\ wz.cell? ⟨W0.heap.size, 0, none⟩ = some (.bool s.dead) /\ wz.cell? ⟨W0.heap.size, 1, none⟩ = some (.int .i64 s.h) /\ wz.cell? ⟨W0.heap.size, 2, none⟩ = some (.string ⟨s.own.toArray⟩)) wz) := ⟨fun wz kk hf => by
  obtain ⟨_, _, _, _, c4, _, _, c7, c8⟩ := nd_cells hf.1
  obtain ⟨x0, x1, x2⟩ := hf.2.1.cells
  exact ⟨c4, c7, c8, x0, x1, x2⟩⟩
 unfold stc
 go_enter Tryz.func105, Tryz.ntmps105
 go_upto_region 1 with fail
 have HFd := hid (HF.out.below (Below.refl _ W2).drew)
 have HGd := hid (HG.out.trans (Gw.of (Below.refl _ W2).drew))
 refine wp_region_drop [] (S := fun wz : World => wz.cell? ⟨W.heap.size, 4, none⟩ = some (.slice q1 n.th.length d1) /\ wz.cell? ⟨W.heap.size, 7, none⟩ = some (.int .i64 n.p.1) /\ wz.cell? ⟨W.heap.size, 8, none⟩ = some (.int .i64 n.p.2) /\ wz.cell? ⟨W0.heap.size, 0, none⟩ = some (.bool s.dead) /\ wz.cell? ⟨W0.heap.size, 1, none⟩ = some (.int .i64 s.h) /\ wz.cell? ⟨W0.heap.size, 2, none⟩ = some (.string ⟨s.own.toArray⟩)) (by kernel_rfl) (HS.out _ _ HFd.out) (fun hHeld => ?_)
 generalize W2.drew = y0 at *
 clear hW0 hW1 hW2
 refine E.zP (is := [0, 1]) ?_
 iterate 2
  refine E.yP (v := ?_) rfl (by kernel_rfl) (fun c a w h => h) (by rfl) ?_ (fun _ => hHeld) ?_
  rotate_left
  ·(intro w hSw; clear hSw; go_simp; try with_reducible rfl)
  simp only [E.pts]
 refine E.eP ?_
 refine E.zT (is := [2, 3, 5]) ?_
 iterate 3
  refine E.yT (v := ?_) rfl (by kernel_rfl) (fun c a w h => h) (by rfl) ?_ hHeld ?_
  rotate_left
  ·(intro w hSw; (try dsimp only at hSw); go_simp; try with_reducible rfl)
  simp only [E.pts]
 refine E.eT ?_
 refine E.xP 6 (v := ?_) rfl (by kernel_rfl) (fun c a w h => h) (by rfl) ?_ (fun _ => hHeld) ?_
 rotate_left
 ·(intro w hSw; clear hSw; go_simp; try with_reducible rfl)
 simp only [E.pts]
 refine E.xT 7 (v := ?_) rfl (by kernel_rfl) (fun c a w h => h) (by rfl) ?_ hHeld ?_
 rotate_left
 ·(intro w hSw; (try dsimp only at hSw); go_simp; try with_reducible rfl)
 simp only [E.pts]
 refine wpD_ready (rs := [4]) (by kernel_rfl) (by simp) ?_
 refine AllD.cons rfl (fun K hK => ?_) AllD.nil
 go_simp
 have hcl := H_th.out (w, s) y0 HXI.out HFd.out.2.2.2 HGd.out
 unfold stc at hcl
 generalize hgc : th (w, s) = A at *
 have HcA := hid hgc
 clear hgc
 refine hcl.mono ?_
 intro e y1 hp
 clear hcl
 cases A with
 | error er =>
  obtain ⟨rfl, hG⟩ := hp
  refine ⟨rfl, ?_⟩
  rw [HR.out]
  exact ⟨rfl, HGd.out.trans hG⟩
 | ok y =>
  obtain ⟨k1, s1⟩ := y
  obtain ⟨rfl, hE, hG⟩ := hp
  have HF1 := hid (HFd.out.gw HA.out hG hE)
  have HG1 := hid (HGd.out.trans hG)
  clear hE hG
  (try simp only)
  replace HR : Y.Hd (R = match back s1 s n.p with | .error e => .error e | .ok _ => .ok (k1, (⟨true, 0, []⟩ : St))) := ⟨HR.out⟩
  refine hK.out _ _ (HS.out _ _ HF1.out) (fun hHeld => ?_)
  clear hK K
  try simp only [E.pts]
  refine wpD_ready (rs := [8]) (by kernel_rfl) (by simp) ?_
  refine AllD.cons rfl (fun K hK => ?_) AllD.nil
  go_simp
  have hbk := back_any s1 s n.p y1
  unfold stc at hbk
  generalize hgk : back s1 s n.p = GK at *
  clear hgk
  refine hbk.mono ?_
  intro e y2 hp
  clear hbk
  obtain ⟨hp, hb⟩ := hp
  cases GK with
  | error er =>
   obtain rfl := hp
   refine ⟨rfl, ?_⟩
   rw [HR.out]
   exact ⟨rfl, HG1.out.trans (Gw.of hb)⟩
  | ok u =>
   obtain rfl := hp
   replace HR : Y.Hd (R = .ok (k1, (⟨true, 0, []⟩ : St))) := ⟨HR.out⟩
   have HF2 := hid (HF1.out.below hb)
   have HG2 := hid (HG1.out.trans (Gw.of hb))
   clear hb
   refine hK.out _ _ (HS.out _ _ HF2.out) (fun hHeld => ?_)
   clear hK K hHeld
   try simp only [E.pts]
   refine wpD_done (by kernel_rfl) ?_ _
   have k6 := HF2.out.res HA.out HG2.out (⟨true, 0, []⟩ : St)
   have hst := HF2.out.2.2.1
   unfold stc at k6
   (try simp only at k6)
   have H6 := hid k6
   clear k6
   go_wp2_with (refine wpList_store_row rfl 129 _ _ rfl W1.heap.size _ rfl rfl 129 _ hst (by exact sizeS) (by rfl) (by simp [Value.oneCell']) ?_)
   refine bodyPost_ret (st_end 6 rfl rfl H6.out.1) rfl ?_
   rw [HR.out]
   exact ⟨rfl, H6.out.2.1, H6.out.2.2⟩
set_option maxHeartbeats 2000000
set_option maxRecDepth 100000
theorem until_any (n : Nd) (q1 q2 : Option Addr) (d1 d2 : Nat) (w : Wk) (s : St) (hx : XI (w, s)) (g : Nat) (mv av : Value) (W : World) (h : EW W g mv av w) (th : X -> Re) (i_th : Inv th) (h_th : (∀ (x : X) (V : World), XI x -> EW V g mv av x.1 -> Gw g W V -> Calls Tryz.prog 67 #[.pointer (some ⟨g, 0, none⟩), .slice q1 n.th.length d1, .agg (stc x.2).toArray] V (EO V g mv av (fun s => .agg (stc s).toArray) (th x)))) :
  Calls Tryz.prog 103 #[.pointer (some ⟨g, 0, none⟩), .agg #[.int .i64 n.k, .int .i64 n.op, .int .u16 n.v, .string n.nm, .slice q1 n.th.length d1, .slice q2 n.el.length d2, .bool n.has, .int .i64 n.p.1, .int .i64 n.p.2], .agg (stc s).toArray] W (EO W g mv av (fun s => .agg (stc s).toArray) (until_ th n.p (w, s))) := by
 obtain ⟨W0, W1, W2, hW0, hW1, hW2, hB, hA, hF⟩ := box_nsr n q1 q2 d1 d2 s g mv av w W h
 have HA := hid hA
 have HF := hid hF
 have HG := hid (Gw.of (g := g) hB)
 have HXI := hid hx
 have H_th := hid h_th
 have I_th := hid i_th
 clear hA hB hF h hx h_th i_th
 have HR : Y.Hd (until_ th n.p (w, s) = match th (w, s) with | .error e => .error e | .ok a => if a.2.dead then .ok a else (match step a 1 0 n.p with | .error e => .error e | .ok b => (match back b.2 s n.p with | .error e => .error e | .ok _ => .ok b))) := ⟨rfl⟩
 generalize until_ th n.p (w, s) = R at *
 obtain ⟨c0, c1, c2, c3, c4, c5, c6, c7, c8⟩ := nd_cells HF.out.1
 obtain ⟨x0, x1, x2⟩ := HF.out.2.1.cells
 unfold stc
 go_enter Tryz.func103, Tryz.ntmps103
 have hcl := H_th.out (w, s) W2 HXI.out HF.out.2.2.2 HG.out
 unfold stc at hcl
 generalize hgc : th (w, s) = A at *
 have HcA := hid hgc
 clear hgc
 go_wp2_with fail
 refine hcl.mono ?_
 intro e y1 hp
 clear hcl hW0 hW1 hW2
 clear c0 c1 c2 c3 c4 c5 c6 c7 c8 x0 x1 x2
 cases A with
 | error er =>
  obtain ⟨rfl, hG⟩ := hp
  refine ⟨rfl, ?_⟩
  rw [HR.out]
  exact ⟨rfl, HG.out.trans hG⟩
 | ok y =>
  obtain ⟨k1, s1⟩ := y
  obtain ⟨rfl, hE, hG⟩ := hp
  have HF1 := hid (HF.out.gw HA.out hG hE)
  have HG1 := hid (HG.out.trans hG)
  clear hE hG
  (try simp only)
  have HX1 := hid (I_th.out _ _ HXI.out HcA.out).1
  replace HR : Y.Hd (R = if s1.dead then .ok (k1, s1) else (match step (k1, s1) 1 0 n.p with | .error e => .error e | .ok b => (match back b.2 s n.p with | .error e => .error e | .ok _ => .ok b))) := ⟨HR.out⟩
  obtain ⟨dd, h1, o1⟩ := s1
  cases dd
  ·
   replace HR : Y.Hd (R = match step (k1, (⟨false, h1, o1⟩ : St)) 1 0 n.p with | .error e => .error e | .ok b => (match back b.2 s n.p with | .error e => .error e | .ok _ => .ok b)) := ⟨HR.out⟩
   obtain ⟨y2, hy2⟩ : ∃ y2, y1.alloc (.cells #[.bool false, .int .i64 h1, .string ⟨o1.toArray⟩] 129) = y2 := ⟨_, rfl⟩
   have zb : Below y1.heap.size y1 y2 := by rw [<- hy2]; exact (Below.refl _ _).alloc (Nat.le_refl _) _
   have HB2 : Y.Hd (SB y2 y1.heap.size ⟨false, h1, o1⟩) := ⟨by rw [<- hy2]; exact heap_alloc_new y1 _⟩
   have HF2 := hid (HF1.out.below zb)
   have HG2 := hid (HG1.out.trans (Gw.of zb))
   have hbg : y1.heap.size ≠ g := by have h1 := HA.out.lt; have h2 := HG1.out.size; omega
   have hbn : y1.heap.size ≠ W.heap.size /\ y1.heap.size ≠ W0.heap.size /\ y1.heap.size ≠ W1.heap.size := ⟨by have := S.lt_of HF1.out.1; omega, by have := S.lt_of HF1.out.2.1; omega, by have := S.lt_of HF1.out.2.2.1; omega⟩
   have HNb := hid (And.intro hbg hbn)
   clear zb hbg hbn
   obtain ⟨c0, c1, c2, c3, c4, c5, c6, c7, c8⟩ := nd_cells HF2.out.1
   obtain ⟨x0, x1, x2⟩ := HF2.out.2.1.cells
   obtain ⟨b0, b1, b2⟩ := HB2.out.cells
   simp only at b0 b1 b2
   (try unfold stc)
   (try simp only)
   have hcl := step_any (k1, ⟨false, h1, o1⟩) 1 0 n.p HX1.out.hh (by decide) (by decide) g mv av y2 HF2.out.2.2.2
   unfold stc at hcl
   generalize hgc : step (k1, ⟨false, h1, o1⟩) 1 0 n.p = B at *
   have HcB := hid hgc
   clear hgc
   go_wp2_with fail
   refine hcl.mono ?_
   intro e y3 hp
   clear hcl hy2 b0 b1 b2
   clear c0 c1 c2 c3 c4 c5 c6 c7 c8 x0 x1 x2
   cases B with
   | error er =>
    obtain ⟨rfl, hG⟩ := hp
    refine ⟨rfl, ?_⟩
    rw [HR.out]
    exact ⟨rfl, HG2.out.trans hG⟩
   | ok y =>
    obtain ⟨k2, s2⟩ := y
    obtain ⟨rfl, hE, hG⟩ := hp
    have HF3 := hid (HF2.out.gw HA.out hG hE)
    have HG3 := hid (HG2.out.trans hG)
    have HB3 : Y.Hd (SB y3 y1.heap.size ⟨false, h1, o1⟩) := ⟨hG.keep HB2.out HNb.out.1⟩
    clear hE hG
    (try simp only)
    replace HR : Y.Hd (R = match back s2 s n.p with | .error e => .error e | .ok _ => .ok (k2, s2)) := ⟨HR.out⟩
    have hst := HB3.out
    have HB4 : Y.Hd (SB (y3.setRow y1.heap.size (stc s2).toArray) y1.heap.size s2) := ⟨setRow_heap y3 y1.heap.size _ _ _ _ HB3.out⟩
    have HF4 : Y.Hd (FR (y3.setRow y1.heap.size (stc s2).toArray) W.heap.size W0.heap.size W1.heap.size g (ndc n (.slice q1 n.th.length d1) (.slice q2 n.el.length d2)) s mv av k2) := ⟨(setRow_other y3 y1.heap.size _ _ (Ne.symm HNb.out.2.1)).trans HF3.out.1, (setRow_other y3 y1.heap.size _ _ (Ne.symm HNb.out.2.2.1)).trans HF3.out.2.1, (setRow_other y3 y1.heap.size _ _ (Ne.symm HNb.out.2.2.2)).trans HF3.out.2.2.1, (setRow_other y3 y1.heap.size _ _ (Ne.symm HNb.out.1)).trans HF3.out.2.2.2⟩
    have HG4 : Y.Hd (Gw g W (y3.setRow y1.heap.size (stc s2).toArray)) := ⟨HG3.out.setR y1.heap.size _ (by have := HG1.out.size; omega)⟩
    unfold stc at HB4 HF4 HG4
    (try unfold stc)
    go_upto_region 5 with (refine wpList_store_row rfl 129 _ _ rfl y1.heap.size _ rfl rfl 129 _ hst (by exact sizeS) (by rfl) (by simp [Value.oneCell']) ?_)
    clear hst
    generalize y3.setRow y1.heap.size [.bool s2.dead, .int .i64 s2.h, .string ⟨s2.own.toArray⟩].toArray = y4 at *
    obtain ⟨c0, c1, c2, c3, c4, c5, c6, c7, c8⟩ := nd_cells HF4.out.1
    obtain ⟨x0, x1, x2⟩ := HF4.out.2.1.cells
    obtain ⟨b0, b1, b2⟩ := HB4.out.cells
    have hbk := back_any s2 s n.p y4
    unfold stc at hbk
    generalize hgk : back s2 s n.p = GK at *
    clear hgk
    go_wp2_with fail
    refine hbk.mono ?_
    intro e y5 hp
    clear hbk
    clear c0 c1 c2 c3 c4 c5 c6 c7 c8 x0 x1 x2
    clear b0 b1 b2
    obtain ⟨hp, hb⟩ := hp
    cases GK with
    | error er =>
     obtain rfl := hp
     refine ⟨rfl, ?_⟩
     rw [HR.out]
     exact ⟨rfl, HG4.out.trans (Gw.of hb)⟩
    | ok u =>
     obtain rfl := hp
     replace HR : Y.Hd (R = .ok (k2, s2)) := ⟨HR.out⟩
     (try simp only)
     have HF5 := hid (HF4.out.below hb)
     have HG5 := hid (HG4.out.trans (Gw.of hb))
     have HB5 := hid (HB4.out.below hb)
     clear hb
     obtain ⟨b0, b1, b2⟩ := HB5.out.cells
     have k6 := HF5.out.res HA.out HG5.out s2
     have hst := HF5.out.2.2.1
     unfold stc at k6
     (try simp only at k6)
     have H6 := hid k6
     clear k6
     go_wp2_with (refine wpList_store_row rfl 129 _ _ rfl W1.heap.size _ rfl rfl 129 _ hst (by exact sizeS) (by rfl) (by simp [Value.oneCell']) ?_)
     refine bodyPost_ret (st_end 6 rfl rfl H6.out.1) rfl ?_
     rw [HR.out]
     exact ⟨rfl, H6.out.2.1, H6.out.2.2⟩
  ·
   replace HR : Y.Hd (R = .ok (k1, ⟨true, h1, o1⟩)) := ⟨HR.out⟩
   obtain ⟨y2, hy2⟩ : ∃ y2, y1.alloc (.cells #[.bool true, .int .i64 h1, .string ⟨o1.toArray⟩] 129) = y2 := ⟨_, rfl⟩
   have zb : Below y1.heap.size y1 y2 := by rw [<- hy2]; exact (Below.refl _ _).alloc (Nat.le_refl _) _
   have HB2 : Y.Hd (SB y2 y1.heap.size ⟨true, h1, o1⟩) := ⟨by rw [<- hy2]; exact heap_alloc_new y1 _⟩
   have HF2 := hid (HF1.out.below zb)
   have HG2 := hid (HG1.out.trans (Gw.of zb))
   have hbg : y1.heap.size ≠ g := by have h1 := HA.out.lt; have h2 := HG1.out.size; omega
   have hbn : y1.heap.size ≠ W.heap.size /\ y1.heap.size ≠ W0.heap.size /\ y1.heap.size ≠ W1.heap.size := ⟨by have := S.lt_of HF1.out.1; omega, by have := S.lt_of HF1.out.2.1; omega, by have := S.lt_of HF1.out.2.2.1; omega⟩
   have HNb := hid (And.intro hbg hbn)
   clear zb hbg hbn
   obtain ⟨c0, c1, c2, c3, c4, c5, c6, c7, c8⟩ := nd_cells HF2.out.1
   obtain ⟨x0, x1, x2⟩ := HF2.out.2.1.cells
   obtain ⟨b0, b1, b2⟩ := HB2.out.cells
   simp only at b0 b1 b2
   (try unfold stc)
   (try simp only)
   have k6 := HF2.out.res HA.out HG2.out ⟨true, h1, o1⟩
   have hst := HF2.out.2.2.1
   unfold stc at k6
   (try simp only at k6)
   have H6 := hid k6
   clear k6
   go_wp2_with (refine wpList_store_row rfl 129 _ _ rfl W1.heap.size _ rfl rfl 129 _ hst (by exact sizeS) (by rfl) (by simp [Value.oneCell']) ?_)
   refine bodyPost_ret (st_end 6 rfl rfl H6.out.1) rfl ?_
   rw [HR.out]
   exact ⟨rfl, H6.out.2.1, H6.out.2.2⟩
set_option maxHeartbeats 2000000
set_option maxRecDepth 100000
theorem do_any (n : Nd) (q1 q2 : Option Addr) (d1 d2 : Nat) (w : Wk) (s : St) (hx : XI (w, s)) (g : Nat) (mv av : Value) (W : World) (h : EW W g mv av w) (th : X -> Re) (i_th : Inv th) (h_th : (∀ (x : X) (V : World), XI x -> EW V g mv av x.1 -> Gw g W V -> Calls Tryz.prog 67 #[.pointer (some ⟨g, 0, none⟩), .slice q1 n.th.length d1, .agg (stc x.2).toArray] V (EO V g mv av (fun s => .agg (stc s).toArray) (th x)))) :
  Calls Tryz.prog 106 #[.pointer (some ⟨g, 0, none⟩), .agg #[.int .i64 n.k, .int .i64 n.op, .int .u16 n.v, .string n.nm, .slice q1 n.th.length d1, .slice q2 n.el.length d2, .bool n.has, .int .i64 n.p.1, .int .i64 n.p.2], .agg (stc s).toArray] W (EO W g mv av (fun s => .agg (stc s).toArray) (do_ th n.p (w, s))) := by
 obtain ⟨W0, W1, W2, hW0, hW1, hW2, hB, hA, hF⟩ := box_nsr n q1 q2 d1 d2 s g mv av w W h
 have HA := hid hA
 have HF := hid hF
 have HG := hid (Gw.of (g := g) hB)
 have HXI := hid hx
 have H_th := hid h_th
 have I_th := hid i_th
 clear hA hB hF h hx h_th i_th
 have HR : Y.Hd (do_ th n.p (w, s) = match step (w, s) 2 0 n.p with | .error e => .error e | .ok y => (match put y n.p [2, 3] with | .error e => .error e | .ok z => (match th z with | .error e => .error e | .ok a => (match back a.2 z.2 n.p with | .error e => .error e | .ok _ => .ok (a.1, { y.2 with dead := a.2.dead }))))) := ⟨rfl⟩
 generalize do_ th n.p (w, s) = R at *
 obtain ⟨c0, c1, c2, c3, c4, c5, c6, c7, c8⟩ := nd_cells HF.out.1
 obtain ⟨x0, x1, x2⟩ := HF.out.2.1.cells
 unfold stc
 go_enter Tryz.func106, Tryz.ntmps106
 have hcl := step_any (w, s) 2 0 n.p HXI.out.hh (by decide) (by decide) g mv av W2 HF.out.2.2.2
 unfold stc at hcl
 generalize hgc : step (w, s) 2 0 n.p = A at *
 have HcA := hid hgc
 clear hgc
 go_wp2_with fail
 refine hcl.mono ?_
 intro e y1 hp
 clear hcl hW0 hW1 hW2
 clear c0 c1 c2 c3 c4 c5 c6 c7 c8 x0 x1 x2
 cases A with
 | error er =>
  obtain ⟨rfl, hG⟩ := hp
  refine ⟨rfl, ?_⟩
  rw [HR.out]
  exact ⟨rfl, HG.out.trans hG⟩
 | ok y =>
  obtain ⟨k1, s1⟩ := y
  obtain ⟨rfl, hE, hG⟩ := hp
  have HF1 := hid (HF.out.gw HA.out hG hE)
  have HG1 := hid (HG.out.trans hG)
  clear hE hG
  (try simp only)
  have HX1 := hid (step_inv 2 0 n.p (by decide) (by decide) _ _ HXI.out HcA.out).1
  replace HR : Y.Hd (R = match put (k1, s1) n.p [2, 3] with | .error e => .error e | .ok z => (match th z with | .error e => .error e | .ok a => (match back a.2 z.2 n.p with | .error e => .error e | .ok _ => .ok (a.1, { s1 with dead := a.2.dead })))) := ⟨HR.out⟩
  have hst := HF1.out.2.1
  have HF2 := hid (HF1.out.row HA.out s1)
  have HG2 := hid (HG1.out.setR W0.heap.size (stc s1).toArray (by have := HA.out.n1; omega))
  unfold stc at HF2 HG2
  (try unfold stc)
  go_upto_region 2 with (refine wpList_store_row rfl 129 _ _ rfl W0.heap.size _ rfl rfl 129 _ hst (by exact sizeS) (by rfl) (by simp [Value.oneCell']) ?_)
  clear hst
  generalize y1.setRow W0.heap.size [.bool s1.dead, .int .i64 s1.h, .string ⟨s1.own.toArray⟩].toArray = y2 at *
  obtain ⟨c0, c1, c2, c3, c4, c5, c6, c7, c8⟩ := nd_cells HF2.out.1
  obtain ⟨x0, x1, x2⟩ := HF2.out.2.1.cells
  obtain ⟨y3, hy3⟩ : ∃ y3, y2.alloc (.cells #[.int .u8 2, .int .u8 3] 5) = y3 := ⟨_, rfl⟩
  have z3 : Below y2.heap.size y2 y3 := by rw [<- hy3]; exact (Below.refl _ _).alloc (Nat.le_refl _) _
  have v3 : y3.heap[y2.heap.size]? = some (.cells [.int .u8 2, .int .u8 3].toArray 5 (0, 0)) := by rw [<- hy3]; exact heap_alloc_new y2 _
  have hbs : Y.BS y3 (· = y2.heap.size) (.slice (some ⟨y2.heap.size, 0, none⟩) 2 2) [2, 3] := .inr ⟨_, 0, 2, rfl, rfl, fun j x hx => by
   match j, hx with
   | 0, hx => cases hx; exact S.cell_of y3 _ 0 _ 5 _ v3 rfl
   | 1, hx => cases hx; exact S.cell_of y3 _ 1 _ 5 _ v3 rfl⟩
  have hlt := S.lt_of v3
  have HF3 := hid (HF2.out.below z3)
  have HG3 := hid (HG2.out.trans (Gw.of z3))
  have hcl := put_any (k1, s1) n.p [2, 3] HX1.out.hl (by simp) _ (· = y2.heap.size) g mv av y3 (fun j hj => by rw [hj]; exact hlt) hbs HF3.out.2.2.2
  unfold stc at hcl
  generalize hgc : put (k1, s1) n.p [2, 3] = B at *
  have HcB := hid hgc
  clear hgc
  go_wp2_with fail
  refine hcl.mono ?_
  intro e y4 hp
  clear hcl hy3 z3 v3 hbs hlt
  clear c0 c1 c2 c3 c4 c5 c6 c7 c8 x0 x1 x2
  cases B with
  | error er =>
   obtain ⟨rfl, hG⟩ := hp
   refine ⟨rfl, ?_⟩
   rw [HR.out]
   exact ⟨rfl, HG3.out.trans hG⟩
  | ok y =>
   obtain ⟨k2, s2⟩ := y
   obtain ⟨rfl, hE, hG⟩ := hp
   have HF4 := hid (HF3.out.gw HA.out hG hE)
   have HG4 := hid (HG3.out.trans hG)
   clear hE hG
   (try simp only)
   have HX2 := hid (put_inv n.p [2, 3] _ _ HX1.out HcB.out).1
   replace HR : Y.Hd (R = match th (k2, s2) with | .error e => .error e | .ok a => (match back a.2 s2 n.p with | .error e => .error e | .ok _ => .ok (a.1, { s1 with dead := a.2.dead }))) := ⟨HR.out⟩
   obtain ⟨y5, hy5⟩ : ∃ y5, y4.alloc (.cells #[.bool s2.dead, .int .i64 s2.h, .string ⟨s2.own.toArray⟩] 129) = y5 := ⟨_, rfl⟩
   have zb : Below y4.heap.size y4 y5 := by rw [<- hy5]; exact (Below.refl _ _).alloc (Nat.le_refl _) _
   have HB5 : Y.Hd (SB y5 y4.heap.size s2) := ⟨by rw [<- hy5]; exact heap_alloc_new y4 _⟩
   have HF5 := hid (HF4.out.below zb)
   have HG5 := hid (HG4.out.trans (Gw.of zb))
   have hbg : y4.heap.size ≠ g := by have h1 := HA.out.lt; have h2 := HG4.out.size; omega
   have hbn : y4.heap.size ≠ W.heap.size /\ y4.heap.size ≠ W0.heap.size /\ y4.heap.size ≠ W1.heap.size := ⟨by have := S.lt_of HF4.out.1; omega, by have := S.lt_of HF4.out.2.1; omega, by have := S.lt_of HF4.out.2.2.1; omega⟩
   have HNb := hid (And.intro hbg hbn)
   clear zb hbg hbn
   obtain ⟨c0, c1, c2, c3, c4, c5, c6, c7, c8⟩ := nd_cells HF5.out.1
   obtain ⟨x0, x1, x2⟩ := HF5.out.2.1.cells
   obtain ⟨b0, b1, b2⟩ := HB5.out.cells
   (try unfold stc)
   have hcl := H_th.out (k2, s2) y5 HX2.out HF5.out.2.2.2 HG5.out
   unfold stc at hcl
   generalize hgc : th (k2, s2) = C at *
   have HcC := hid hgc
   clear hgc
   go_wp2_with fail
   refine hcl.mono ?_
   intro e y6 hp
   clear hcl hy5 b0 b1 b2
   clear c0 c1 c2 c3 c4 c5 c6 c7 c8 x0 x1 x2
   cases C with
   | error er =>
    obtain ⟨rfl, hG⟩ := hp
    refine ⟨rfl, ?_⟩
    rw [HR.out]
    exact ⟨rfl, HG5.out.trans hG⟩
   | ok y =>
    obtain ⟨k3, s3⟩ := y
    obtain ⟨rfl, hE, hG⟩ := hp
    have HF6 := hid (HF5.out.gw HA.out hG hE)
    have HG6 := hid (HG5.out.trans hG)
    have HB6 : Y.Hd (SB y6 y4.heap.size s2) := ⟨hG.keep HB5.out HNb.out.1⟩
    clear hE hG
    (try simp only)
    replace HR : Y.Hd (R = match back s3 s2 n.p with | .error e => .error e | .ok _ => .ok (k3, { s1 with dead := s3.dead })) := ⟨HR.out⟩
    obtain ⟨y7, hy7⟩ : ∃ y7, y6.alloc (.cells #[.bool s3.dead, .int .i64 s3.h, .string ⟨s3.own.toArray⟩] 129) = y7 := ⟨_, rfl⟩
    have zb : Below y6.heap.size y6 y7 := by rw [<- hy7]; exact (Below.refl _ _).alloc (Nat.le_refl _) _
    have HD7 : Y.Hd (SB y7 y6.heap.size s3) := ⟨by rw [<- hy7]; exact heap_alloc_new y6 _⟩
    have HF7 := hid (HF6.out.below zb)
    have HG7 := hid (HG6.out.trans (Gw.of zb))
    have hbg : y6.heap.size ≠ g := by have h1 := HA.out.lt; have h2 := HG6.out.size; omega
    have hbn : y6.heap.size ≠ W.heap.size /\ y6.heap.size ≠ W0.heap.size /\ y6.heap.size ≠ W1.heap.size := ⟨by have := S.lt_of HF6.out.1; omega, by have := S.lt_of HF6.out.2.1; omega, by have := S.lt_of HF6.out.2.2.1; omega⟩
    have HNd := hid (And.intro hbg hbn)
    have HB7 : Y.Hd (SB y7 y4.heap.size s2) := ⟨HB6.out.below zb⟩
    clear zb hbg hbn
    obtain ⟨c0, c1, c2, c3, c4, c5, c6, c7, c8⟩ := nd_cells HF7.out.1
    obtain ⟨x0, x1, x2⟩ := HF7.out.2.1.cells
    obtain ⟨b0, b1, b2⟩ := HB7.out.cells
    obtain ⟨e0, e1, e2⟩ := HD7.out.cells
    (try unfold stc)
    have hbk := back_any s3 s2 n.p y7
    unfold stc at hbk
    generalize hgk : back s3 s2 n.p = GK at *
    clear hgk
    go_wp2_with fail
    refine hbk.mono ?_
    intro e y8 hp
    clear hbk
    clear c0 c1 c2 c3 c4 c5 c6 c7 c8 x0 x1 x2
    clear b0 b1 b2 e0 e1 e2 hy7
    obtain ⟨hp, hb⟩ := hp
    cases GK with
    | error er =>
     obtain rfl := hp
     refine ⟨rfl, ?_⟩
     rw [HR.out]
     exact ⟨rfl, HG7.out.trans (Gw.of hb)⟩
    | ok u =>
     obtain rfl := hp
     replace HR : Y.Hd (R = .ok (k3, { s1 with dead := s3.dead })) := ⟨HR.out⟩
     (try simp only)
     have HF8 := hid (HF7.out.below hb)
     have HG8 := hid (HG7.out.trans (Gw.of hb))
     have HD8 := hid (HD7.out.below hb)
     clear hb
     obtain ⟨e0, e1, e2⟩ := HD8.out.cells
     obtain ⟨x0, x1, x2⟩ := HF8.out.2.1.cells
     have f0 := HF8.out.2.1.fro 0
     have HF9 := hid (HF8.out.cell HA.out 0 (.bool s3.dead) { s1 with dead := s3.dead } rfl)
     have HG9 := hid (HG8.out.setN W0.heap.size 0 (.bool s3.dead) (by have := HA.out.n1; omega))
     go_upto_region 6 with fail
     clear f0 x0 x1 x2 e0 e1 e2
     generalize y8.setCell ⟨W0.heap.size, 0, none⟩ (.bool s3.dead) = y9 at *
     obtain ⟨x0, x1, x2⟩ := HF9.out.2.1.cells
     simp only at x0 x1 x2
     have k6 := HF9.out.res HA.out HG9.out { s1 with dead := s3.dead }
     have hst := HF9.out.2.2.1
     unfold stc at k6
     (try simp only at k6)
     have H6 := hid k6
     clear k6
     go_wp2_with (refine wpList_store_row rfl 129 _ _ rfl W1.heap.size _ rfl rfl 129 _ hst (by exact sizeS) (by rfl) (by simp [Value.oneCell']) ?_)
     refine bodyPost_ret (st_end 6 rfl rfl H6.out.1) rfl ?_
     rw [HR.out]
     exact ⟨rfl, H6.out.2.1, H6.out.2.2⟩
set_option maxHeartbeats 2000000
set_option maxRecDepth 100000
theorem while_any (n : Nd) (q1 q2 : Option Addr) (d1 d2 : Nat) (w : Wk) (s : St) (hx : XI (w, s)) (g : Nat) (mv av : Value) (W : World) (h : EW W g mv av w) (th : X -> Re) (i_th : Inv th) (h_th : (∀ (x : X) (V : World), XI x -> EW V g mv av x.1 -> Gw g W V -> Calls Tryz.prog 67 #[.pointer (some ⟨g, 0, none⟩), .slice q1 n.th.length d1, .agg (stc x.2).toArray] V (EO V g mv av (fun s => .agg (stc s).toArray) (th x)))) (el : X -> Re) (i_el : Inv el) (h_el : (∀ (x : X) (V : World), XI x -> EW V g mv av x.1 -> Gw g W V -> Calls Tryz.prog 67 #[.pointer (some ⟨g, 0, none⟩), .slice q2 n.el.length d2, .agg (stc x.2).toArray] V (EO V g mv av (fun s => .agg (stc s).toArray) (el x)))) :
  Calls Tryz.prog 104 #[.pointer (some ⟨g, 0, none⟩), .agg #[.int .i64 n.k, .int .i64 n.op, .int .u16 n.v, .string n.nm, .slice q1 n.th.length d1, .slice q2 n.el.length d2, .bool n.has, .int .i64 n.p.1, .int .i64 n.p.2], .agg (stc s).toArray] W (EO W g mv av (fun s => .agg (stc s).toArray) (while_ th el n.p (w, s))) := by
 obtain ⟨W0, W1, W2, hW0, hW1, hW2, hB, hA, hF⟩ := box_nsr n q1 q2 d1 d2 s g mv av w W h
 have HA := hid hA
 have HF := hid hF
 have HG := hid (Gw.of (g := g) hB)
 have HXI := hid hx
 have H_th := hid h_th
 have I_th := hid i_th
 have H_el := hid h_el
 have I_el := hid i_el
 clear hA hB hF h hx h_th i_th h_el i_el
 have HR : Y.Hd (while_ th el n.p (w, s) = match th (w, s) with | .error e => .error e | .ok a => if a.2.dead then .ok a else (match step a 1 0 n.p with | .error e => .error e | .ok b => (match el b with | .error e => .error e | .ok c => (match back c.2 s n.p with | .error e => .error e | .ok _ => .ok (c.1, b.2))))) := ⟨rfl⟩
 generalize while_ th el n.p (w, s) = R at *
 obtain ⟨c0, c1, c2, c3, c4, c5, c6, c7, c8⟩ := nd_cells HF.out.1
 obtain ⟨x0, x1, x2⟩ := HF.out.2.1.cells
 unfold stc
 go_enter Tryz.func104, Tryz.ntmps104
 have hcl := H_th.out (w, s) W2 HXI.out HF.out.2.2.2 HG.out
 unfold stc at hcl
 generalize hgc : th (w, s) = A at *
 have HcA := hid hgc
 clear hgc
 go_wp2_with fail
 refine hcl.mono ?_
 intro e y1 hp
 clear hcl hW0 hW1 hW2
 clear c0 c1 c2 c3 c4 c5 c6 c7 c8 x0 x1 x2
 cases A with
 | error er =>
  obtain ⟨rfl, hG⟩ := hp
  refine ⟨rfl, ?_⟩
  rw [HR.out]
  exact ⟨rfl, HG.out.trans hG⟩
 | ok y =>
  obtain ⟨k1, s1⟩ := y
  obtain ⟨rfl, hE, hG⟩ := hp
  have HF1 := hid (HF.out.gw HA.out hG hE)
  have HG1 := hid (HG.out.trans hG)
  clear hE hG
  (try simp only)
  have HX1 := hid (I_th.out _ _ HXI.out HcA.out).1
  replace HR : Y.Hd (R = if s1.dead then .ok (k1, s1) else (match step (k1, s1) 1 0 n.p with | .error e => .error e | .ok b => (match el b with | .error e => .error e | .ok c => (match back c.2 s n.p with | .error e => .error e | .ok _ => .ok (c.1, b.2))))) := ⟨HR.out⟩
  obtain ⟨dd, h1, o1⟩ := s1
  cases dd
  ·
   replace HR : Y.Hd (R = match step (k1, (⟨false, h1, o1⟩ : St)) 1 0 n.p with | .error e => .error e | .ok b => (match el b with | .error e => .error e | .ok c => (match back c.2 s n.p with | .error e => .error e | .ok _ => .ok (c.1, b.2)))) := ⟨HR.out⟩
   obtain ⟨y2, hy2⟩ : ∃ y2, y1.alloc (.cells #[.bool false, .int .i64 h1, .string ⟨o1.toArray⟩] 129) = y2 := ⟨_, rfl⟩
   have zb : Below y1.heap.size y1 y2 := by rw [<- hy2]; exact (Below.refl _ _).alloc (Nat.le_refl _) _
   have HB2 : Y.Hd (SB y2 y1.heap.size ⟨false, h1, o1⟩) := ⟨by rw [<- hy2]; exact heap_alloc_new y1 _⟩
   have HF2 := hid (HF1.out.below zb)
   have HG2 := hid (HG1.out.trans (Gw.of zb))
   have hbg : y1.heap.size ≠ g := by have h1 := HA.out.lt; have h2 := HG1.out.size; omega
   have hbn : y1.heap.size ≠ W.heap.size /\ y1.heap.size ≠ W0.heap.size /\ y1.heap.size ≠ W1.heap.size := ⟨by have := S.lt_of HF1.out.1; omega, by have := S.lt_of HF1.out.2.1; omega, by have := S.lt_of HF1.out.2.2.1; omega⟩
   have HNb := hid (And.intro hbg hbn)
   clear zb hbg hbn
   obtain ⟨c0, c1, c2, c3, c4, c5, c6, c7, c8⟩ := nd_cells HF2.out.1
   obtain ⟨x0, x1, x2⟩ := HF2.out.2.1.cells
   obtain ⟨b0, b1, b2⟩ := HB2.out.cells
   simp only at b0 b1 b2
   (try unfold stc)
   (try simp only)
   have hcl := step_any (k1, ⟨false, h1, o1⟩) 1 0 n.p HX1.out.hh (by decide) (by decide) g mv av y2 HF2.out.2.2.2
   unfold stc at hcl
   generalize hgc : step (k1, ⟨false, h1, o1⟩) 1 0 n.p = B at *
   have HcB := hid hgc
   clear hgc
   go_wp2_with fail
   refine hcl.mono ?_
   intro e y3 hp
   clear hcl hy2 b0 b1 b2
   clear c0 c1 c2 c3 c4 c5 c6 c7 c8 x0 x1 x2
   cases B with
   | error er =>
    obtain ⟨rfl, hG⟩ := hp
    refine ⟨rfl, ?_⟩
    rw [HR.out]
    exact ⟨rfl, HG2.out.trans hG⟩
   | ok y =>
    obtain ⟨k2, s2⟩ := y
    obtain ⟨rfl, hE, hG⟩ := hp
    have HF3 := hid (HF2.out.gw HA.out hG hE)
    have HG3 := hid (HG2.out.trans hG)
    have HB3 : Y.Hd (SB y3 y1.heap.size ⟨false, h1, o1⟩) := ⟨hG.keep HB2.out HNb.out.1⟩
    clear hE hG
    (try simp only)
    have HX2 := hid (step_inv 1 0 n.p (by decide) (by decide) _ _ HX1.out HcB.out).1
    replace HR : Y.Hd (R = match el (k2, s2) with | .error e => .error e | .ok c => (match back c.2 s n.p with | .error e => .error e | .ok _ => .ok (c.1, s2))) := ⟨HR.out⟩
    have hst := HB3.out
    have HB4 : Y.Hd (SB (y3.setRow y1.heap.size (stc s2).toArray) y1.heap.size s2) := ⟨setRow_heap y3 y1.heap.size _ _ _ _ HB3.out⟩
    have HF4 : Y.Hd (FR (y3.setRow y1.heap.size (stc s2).toArray) W.heap.size W0.heap.size W1.heap.size g (ndc n (.slice q1 n.th.length d1) (.slice q2 n.el.length d2)) s mv av k2) := ⟨(setRow_other y3 y1.heap.size _ _ (Ne.symm HNb.out.2.1)).trans HF3.out.1, (setRow_other y3 y1.heap.size _ _ (Ne.symm HNb.out.2.2.1)).trans HF3.out.2.1, (setRow_other y3 y1.heap.size _ _ (Ne.symm HNb.out.2.2.2)).trans HF3.out.2.2.1, (setRow_other y3 y1.heap.size _ _ (Ne.symm HNb.out.1)).trans HF3.out.2.2.2⟩
    have HG4 : Y.Hd (Gw g W (y3.setRow y1.heap.size (stc s2).toArray)) := ⟨HG3.out.setR y1.heap.size _ (by have := HG1.out.size; omega)⟩
    unfold stc at HB4 HF4 HG4
    (try unfold stc)
    go_upto_region 5 with (refine wpList_store_row rfl 129 _ _ rfl y1.heap.size _ rfl rfl 129 _ hst (by exact sizeS) (by rfl) (by simp [Value.oneCell']) ?_)
    clear hst
    generalize y3.setRow y1.heap.size [.bool s2.dead, .int .i64 s2.h, .string ⟨s2.own.toArray⟩].toArray = y4 at *
    have HS : Y.Hd (∀ (wz : World) (kk : Wk), FR wz W.heap.size W0.heap.size W1.heap.size g (ndc n (.slice q1 n.th.length d1) (.slice q2 n.el.length d2)) s mv av kk -> SB wz y1.heap.size s2 -> (fun wz : World => wz.cell? ⟨W.heap.size, 5, none⟩ = some (.slice q2 n.el.length d2) /\ wz.cell? ⟨W.heap.size, 7, none⟩ = some (.int .i64 n.p.1) /\ wz.cell? ⟨W.heap.size, 8, none⟩ = some (.int .i64 n.p.2) /\ wz.cell? ⟨W0.heap.size, 0, none⟩ = some (.bool s.dead) /\ wz.cell? ⟨W0.heap.size, 1, none⟩ = some (.int .i64 s.h) /\ wz.cell? ⟨W0.heap.size, 2, none⟩ = some (.string ⟨s.own.toArray⟩) /\ wz.cell? ⟨y1.heap.size, 0, none⟩ = some (.bool s2.dead) /\ wz.cell? ⟨y1.heap.size, 1, none⟩ = some (.int .i64 s2.h) /\ wz.cell? ⟨y1.heap.size, 2, none⟩ = some (.string ⟨s2.own.toArray⟩)) wz) := ⟨fun wz kk hf hbb => by
     obtain ⟨_, _, _, _, _, c5, _, c7, c8⟩ := nd_cells hf.1
     obtain ⟨x0, x1, x2⟩ := hf.2.1.cells
     obtain ⟨b0, b1, b2⟩ := hbb.cells
     exact ⟨c5, c7, c8, x0, x1, x2, b0, b1, b2⟩⟩
    have HFd := hid (HF4.out.below (Below.refl _ y4).drew)
    have HGd := hid (HG4.out.trans (Gw.of (Below.refl _ y4).drew))
    have HBd : Y.Hd (SB y4.drew y1.heap.size s2) := ⟨HB4.out⟩
    refine wp_region_drop [] (S := fun wz : World => wz.cell? ⟨W.heap.size, 5, none⟩ = some (.slice q2 n.el.length d2) /\ wz.cell? ⟨W.heap.size, 7, none⟩ = some (.int .i64 n.p.1) /\ wz.cell? ⟨W.heap.size, 8, none⟩ = some (.int .i64 n.p.2) /\ wz.cell? ⟨W0.heap.size, 0, none⟩ = some (.bool s.dead) /\ wz.cell? ⟨W0.heap.size, 1, none⟩ = some (.int .i64 s.h) /\ wz.cell? ⟨W0.heap.size, 2, none⟩ = some (.string ⟨s.own.toArray⟩) /\ wz.cell? ⟨y1.heap.size, 0, none⟩ = some (.bool s2.dead) /\ wz.cell? ⟨y1.heap.size, 1, none⟩ = some (.int .i64 s2.h) /\ wz.cell? ⟨y1.heap.size, 2, none⟩ = some (.string ⟨s2.own.toArray⟩)) (by kernel_rfl) (HS.out _ _ HFd.out HBd.out) (fun hHeld => ?_)
    generalize y4.drew = y5 at *
    refine E.zP (is := [0, 1]) ?_
    iterate 2
     refine E.yP (v := ?_) rfl (by kernel_rfl) (fun c a w h => h) (by rfl) ?_ (fun _ => hHeld) ?_
     rotate_left
     ·(intro w hSw; clear hSw; go_simp; try with_reducible rfl)
     simp only [E.pts]
    refine E.eP ?_
    refine E.zT (is := [2, 3, 5]) ?_
    iterate 3
     refine E.yT (v := ?_) rfl (by kernel_rfl) (fun c a w h => h) (by rfl) ?_ hHeld ?_
     rotate_left
     ·(intro w hSw; (try dsimp only at hSw); go_simp; try with_reducible rfl)
     simp only [E.pts]
    refine E.eT ?_
    refine E.xP 6 (v := ?_) rfl (by kernel_rfl) (fun c a w h => h) (by rfl) ?_ (fun _ => hHeld) ?_
    rotate_left
    ·(intro w hSw; clear hSw; go_simp; try with_reducible rfl)
    simp only [E.pts]
    refine E.xT 7 (v := ?_) rfl (by kernel_rfl) (fun c a w h => h) (by rfl) ?_ hHeld ?_
    rotate_left
    ·(intro w hSw; (try dsimp only at hSw); go_simp; try with_reducible rfl)
    simp only [E.pts]
    refine wpD_ready (rs := [4]) (by kernel_rfl) (by simp) ?_
    refine AllD.cons rfl (fun K hK => ?_) AllD.nil
    go_simp
    have hcl := H_el.out (k2, s2) y5 HX2.out HFd.out.2.2.2 HGd.out
    unfold stc at hcl
    generalize hgc : el (k2, s2) = C at *
    have HcC := hid hgc
    clear hgc
    refine hcl.mono ?_
    intro e y6 hp
    clear hcl
    cases C with
    | error er =>
     obtain ⟨rfl, hG⟩ := hp
     refine ⟨rfl, ?_⟩
     rw [HR.out]
     exact ⟨rfl, HGd.out.trans hG⟩
    | ok y =>
     obtain ⟨k3, s3⟩ := y
     obtain ⟨rfl, hE, hG⟩ := hp
     have HF6 := hid (HFd.out.gw HA.out hG hE)
     have HG6 := hid (HGd.out.trans hG)
     have HB6 : Y.Hd (SB y6 y1.heap.size s2) := ⟨hG.keep HBd.out HNb.out.1⟩
     clear hE hG
     (try simp only)
     replace HR : Y.Hd (R = match back s3 s n.p with | .error e => .error e | .ok _ => .ok (k3, s2)) := ⟨HR.out⟩
     refine hK.out _ _ (HS.out _ _ HF6.out HB6.out) (fun hHeld => ?_)
     clear hK K
     try simp only [E.pts]
     refine wpD_ready (rs := [8]) (by kernel_rfl) (by simp) ?_
     refine AllD.cons rfl (fun K hK => ?_) AllD.nil
     go_simp
     have hbk := back_any s3 s n.p y6
     unfold stc at hbk
     generalize hgk : back s3 s n.p = GK at *
     clear hgk
     refine hbk.mono ?_
     intro e y7 hp
     clear hbk
     obtain ⟨hp, hb⟩ := hp
     cases GK with
     | error er =>
      obtain rfl := hp
      refine ⟨rfl, ?_⟩
      rw [HR.out]
      exact ⟨rfl, HG6.out.trans (Gw.of hb)⟩
     | ok u =>
      obtain rfl := hp
      replace HR : Y.Hd (R = .ok (k3, s2)) := ⟨HR.out⟩
      have HF7 := hid (HF6.out.below hb)
      have HG7 := hid (HG6.out.trans (Gw.of hb))
      have HB7 := hid (HB6.out.below hb)
      clear hb
      refine hK.out _ _ (HS.out _ _ HF7.out HB7.out) (fun hHeld => ?_)
      clear hK K hHeld
      try simp only [E.pts]
      refine wpD_done (by kernel_rfl) ?_ _
      obtain ⟨b0, b1, b2⟩ := HB7.out.cells
      have k6 := HF7.out.res HA.out HG7.out s2
      have hst := HF7.out.2.2.1
      unfold stc at k6
      (try simp only at k6)
      have H6 := hid k6
      clear k6
      go_wp2_with (refine wpList_store_row rfl 129 _ _ rfl W1.heap.size _ rfl rfl 129 _ hst (by exact sizeS) (by rfl) (by simp [Value.oneCell']) ?_)
      refine bodyPost_ret (st_end 6 rfl rfl H6.out.1) rfl ?_
      rw [HR.out]
      exact ⟨rfl, H6.out.2.1, H6.out.2.2⟩
  ·
   replace HR : Y.Hd (R = .ok (k1, ⟨true, h1, o1⟩)) := ⟨HR.out⟩
   obtain ⟨y2, hy2⟩ : ∃ y2, y1.alloc (.cells #[.bool true, .int .i64 h1, .string ⟨o1.toArray⟩] 129) = y2 := ⟨_, rfl⟩
   have zb : Below y1.heap.size y1 y2 := by rw [<- hy2]; exact (Below.refl _ _).alloc (Nat.le_refl _) _
   have HB2 : Y.Hd (SB y2 y1.heap.size ⟨true, h1, o1⟩) := ⟨by rw [<- hy2]; exact heap_alloc_new y1 _⟩
   have HF2 := hid (HF1.out.below zb)
   have HG2 := hid (HG1.out.trans (Gw.of zb))
   have hbg : y1.heap.size ≠ g := by have h1 := HA.out.lt; have h2 := HG1.out.size; omega
   have hbn : y1.heap.size ≠ W.heap.size /\ y1.heap.size ≠ W0.heap.size /\ y1.heap.size ≠ W1.heap.size := ⟨by have := S.lt_of HF1.out.1; omega, by have := S.lt_of HF1.out.2.1; omega, by have := S.lt_of HF1.out.2.2.1; omega⟩
   have HNb := hid (And.intro hbg hbn)
   clear zb hbg hbn
   obtain ⟨c0, c1, c2, c3, c4, c5, c6, c7, c8⟩ := nd_cells HF2.out.1
   obtain ⟨x0, x1, x2⟩ := HF2.out.2.1.cells
   obtain ⟨b0, b1, b2⟩ := HB2.out.cells
   simp only at b0 b1 b2
   (try unfold stc)
   (try simp only)
   have k6 := HF2.out.res HA.out HG2.out ⟨true, h1, o1⟩
   have hst := HF2.out.2.2.1
   unfold stc at k6
   (try simp only at k6)
   have H6 := hid k6
   clear k6
   go_wp2_with (refine wpList_store_row rfl 129 _ _ rfl W1.heap.size _ rfl rfl 129 _ hst (by exact sizeS) (by rfl) (by simp [Value.oneCell']) ?_)
   refine bodyPost_ret (st_end 6 rfl rfl H6.out.1) rfl ?_
   rw [HR.out]
   exact ⟨rfl, H6.out.2.1, H6.out.2.2⟩
end Go.Proofs.YtlilefhmohkfkaaGreatDoor.E
