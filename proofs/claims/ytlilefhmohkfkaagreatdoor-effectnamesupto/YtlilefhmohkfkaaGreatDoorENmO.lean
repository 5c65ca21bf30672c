import Derived.Test.YtlilefhmohkfkaaGreatDoorENmW
import Derived.Test.YtlilefhmohkfkaaGreatDoorEPlaces
import Derived.Test.YtlilefhmohkfkaaGreatDoorYBank
import Derived.Test.YtlilefhmohkfkaaGreatDoorYMath
namespace Go.Proofs.YtlilefhmohkfkaaGreatDoor.E
open Go.RowKit
open Go.Proofs
open Go.Proofs.YtlilefhmohkfkaaGreatDoor.Y (Nd Df Ps ndc dfc hid NV DV D1 cells6 cells9 BV NC own_nv infoNd nl nl_len nl_th nl_el)
open R (lk numb)
set_option linter.unusedVariables false
set_option linter.unusedSimpArgs false
set_option maxHeartbeats 2000000
set_option maxRecDepth 100000
def xr (v : Int) : Int := bits .xor .u16 v 23205
def Nw (W w : World) (j : Nat) : Prop := W.heap.size <= j /\ j < w.heap.size
def Nx (W w : World) (v : Value) (j : Nat) : Prop := (W.heap.size <= j /\ j < w.heap.size) /\ some j ≠ v.ownBlock
def OTE (ds : List Df) (l : List Nd) : Prop := ∀ (v dv bv : Value) (O : Nat -> Prop) (W : World), (∀ j, O j -> j < W.heap.size) -> DV W O dv ds -> (∃ p n c, bv = .slice p n c) -> NV W O v l -> nl l <= 1048576 ->
 Calls Tryz.prog 16 #[.agg #[dv, bv], v] W fun e w' => ∃ v', e = .returned v' /\ Below W.heap.size W w' /\ NV w' (Nw W w') v' (ots xr ds l)
theorem ots_take (ds : List Df) (l : List Nd) (k : Nat) (n : Nd) (h : l[k]? = some n) : ots xr ds (l.take (k + 1)) = ots xr ds (l.take k) ++ [oth xr ds n] := by
 unfold ots
 rw [List.take_add_one, h, List.map_append]
 rfl
theorem own_sl2 {W : World} {B : Nat} {e : TypeId} {size : Nat} {v : Value} {n : Nat} {xs : List Value} (h : W.ownsRow B e size v n xs) : ∃ p c, v = .slice p n c := by
 rcases h.2 with ⟨rfl, e⟩ | ⟨g, cap, cur, rfl, _⟩
 ·subst e; exact ⟨_, _, rfl⟩
 ·exact ⟨_, _, rfl⟩
theorem own_gb {W : World} {B : Nat} {e : TypeId} {size : Nat} {v : Value} {n : Nat} {xs : List Value} (h : W.ownsRow B e size v n xs) (g : Nat) (hg : v.ownBlock = some g) : B <= g /\ g < W.heap.size := by
 rcases h.2 with ⟨rfl, _⟩ | ⟨g', cap, cur, rfl, h2, h3, _⟩
 ·cases hg
 ·cases hg; exact ⟨h2, S.lt_of h3⟩
theorem other_of (ds : List Df) (hd : ds.length <= 1048576) (l : List Nd) (hn : ∀ m ∈ l, OTE ds m.th /\ OTE ds m.el) : OTE ds l := by
 intro v dv bv O W hO hD hbv hV hnl
 obtain ⟨pd, cd, rfl, hdl, hdp⟩ := id hD
 obtain ⟨bp, bn, bc, rfl⟩ := hbv
 obtain ⟨p, cc, rfl, hl, hp⟩ := hV.ex
 clear hV
 have hl20 : l.length <= 1048576 := Nat.le_trans (nl_len l) hnl
 obtain ⟨W0, hW0⟩ : ∃ W0, W.alloc (.cells #[.slice pd ds.length cd, .slice bp bn bc] 35) = W0 := ⟨_, rfl⟩
 have hB : Below W.heap.size W W0 := by rw [<- hW0]; exact (Below.refl _ _).alloc (Nat.le_refl _) _
 have v0 : W0.heap[W.heap.size]? = some (.cells [Value.slice pd ds.length cd, .slice bp bn bc].toArray 35 (0, 0)) := by rw [<- hW0]; exact heap_alloc_new W _
 have hs0 : W0.heap.size = W.heap.size + 1 := by rw [<- hW0]; simp
 have HH := hid (And.intro hB (And.intro v0 (And.intro hO (And.intro hD (And.intro hnl hs0)))))
 clear hB v0 hO hD hnl hs0
 go_enter Tryz.func16, Tryz.ntmps16
 go_wp2
 clear hW0
 go_loopw [5, 10] (fun ov ix wr => ∃ (k : Nat) (cs : List Value) (q : Option Addr) (qc : Nat), k <= l.length /\ ov = .slice q k qc /\ ix = .int .i64 (k : Int) /\ Below W0.heap.size W0 wr /\ wr.ownsRow W0.heap.size 30 9 (.slice q k qc) k cs /\ NC wr (Nx W0 wr (.slice q k qc)) (ots xr ds (l.take k)) cs) (fun _ ix _ => l.length - (intOf ix).toNat)
 case atStart => exact ⟨0, [], none, 0, by omega, rfl, rfl, Below.refl _ _, ⟨rfl, .inl ⟨rfl, rfl⟩⟩, by rw [List.take_zero]; rfl⟩
 case round =>
  obtain ⟨k, cs, q, qc, hk, rfl, rfl, hb, hR, hC⟩ := hrel
  by_cases hlt : k < l.length
  ·have i1 : (k : Int) < l.length := by omega
   have ea := List.getElem?_eq_getElem hlt
   have hm := hn l[k] (List.getElem_mem _)
   have hm1 := nl_th (List.getElem_mem hlt)
   have hm2 := nl_el (List.getElem_mem hlt)
   generalize l[k] = n at *
   obtain ⟨b, o, rfl, hOb, hN⟩ := hp k n ea
   obtain ⟨tv, ev, hcl, ht, he⟩ := hN.ex
   obtain ⟨q1, d1, rfl, _, _⟩ := ht.ex
   obtain ⟨q2, d2, rfl, _, _⟩ := he.ex
   have hbW : Below W.heap.size W wr := HH.out.1.trans (hb.mono HH.out.1.size)
   have kb := hbW.block b (HH.out.2.2.1 b hOb)
   obtain ⟨g0, g1, g2, g3, g4, g5, g6, g7, g8⟩ := cells9 fun j x hx => (World.cell?_of_block (w := W) (a := ⟨b, o + k * 9 + j, none⟩) kb).trans (hcl j x hx)
   obtain ⟨y, hy⟩ : ∃ y, wr.alloc (.cells #[.int .i64 n.k, .int .i64 n.op, .int .u16 n.v, .string n.nm, .slice q1 n.th.length d1, .slice q2 n.el.length d2, .bool n.has, .int .i64 n.p.1, .int .i64 n.p.2] 30) = y := ⟨_, rfl⟩
   have zb : Below wr.heap.size wr y := by rw [<- hy]; exact (Below.refl _ _).alloc (Nat.le_refl _) _
   have vb : y.heap[wr.heap.size]? = some (.cells (ndc n (.slice q1 n.th.length d1) (.slice q2 n.el.length d2)).toArray 30 (0, 0)) := by rw [<- hy]; exact heap_alloc_new wr _
   have hby : Below W0.heap.size W0 y := hb.trans (zb.mono hb.size)
   have hW0w : W0.heap.size <= wr.heap.size := hb.size
   have hstep := ots_take ds l k n ea
   have HY := hid (And.intro hby (And.intro vb (And.intro hstep (And.intro zb (And.intro hR (And.intro hC hW0w))))))
   have HT := hid (And.intro ht (And.intro he (And.intro hm.1 (And.intro hm.2 (And.intro (Nat.le_trans hm1 HH.out.2.2.2.2.1) (Nat.le_trans hm2 HH.out.2.2.2.2.1))))))
   have Hk := hid hk
   have pc := (hby.block _ (S.lt_of HH.out.2.1)).trans HH.out.2.1
   obtain ⟨c0, c1, c2, c3, c4, c5, c6, c7, c8⟩ := nd_cells vb
   have e0 := S.cell_of y _ 0 _ 35 _ pc rfl
   have e1 := S.cell_of y _ 1 _ 35 _ pc rfl
   have ff : ∀ i, y.frozen? ⟨wr.heap.size, i, none⟩ = false := fun i => S.frozen_of y _ i _ 30 vb
   have f3 := ff 3
   have HW := hid hbW
   have HB0 := hid hb
   have HP := hid ((hb.block _ (S.lt_of HH.out.2.1)).trans HH.out.2.1)
   clear ff kb hcl ht he hN hm hp ea hb hR hC zb vb hby hstep hk hm1 hm2 hbW hW0w pc
   by_cases c2' : n.k = 2
   ·have a1 : 2 <= n.k := by omega
    have a2 : n.k <= 2 := by omega
    have e0' := c2'
    clear c2'
    clear hy c0 c1 c2 c3 c4 c5 c6 c7 c8 e0 e1 f3
    have HE := hid e0'
    clear e0'
    go_upto_region 10 with fail
    obtain ⟨z, hz⟩ : ∃ z, wr.alloc (.cells #[.int .i64 n.k, .int .i64 n.op, .int .u16 (bits .xor .u16 n.v 23205), .string n.nm, .slice q1 n.th.length d1, .slice q2 n.el.length d2, .bool n.has, .int .i64 n.p.2, .int .i64 n.p.1] 30) = z := ⟨_, rfl⟩
    rw [hz]
    have zb : Below wr.heap.size wr z := by rw [<- hz]; exact (Below.refl _ _).alloc (Nat.le_refl _) _
    have vz : z.heap[wr.heap.size]? = some (.cells (ndc ⟨n.k, n.op, (bits .xor .u16 n.v 23205), n.nm, n.th, n.el, n.has, (n.p.2, n.p.1)⟩ (.slice q1 n.th.length d1) (.slice q2 n.el.length d2)).toArray 30 (0, 0)) := by rw [<- hz]; exact heap_alloc_new wr _
    have pz := (zb.block _ (S.lt_of HP.out)).trans HP.out
    clear hz g0 g1 g2 g3 g4 g5 g6 g7 g8
    have hOz : ∀ j, O j -> j < z.heap.size := fun j hj => Nat.lt_of_lt_of_le (HH.out.2.2.1 j hj) (Nat.le_trans HW.out.size zb.size)
    have hWz : Below W.heap.size W z := bch2 HW.out HW.out.size zb
    have hc1 := HT.out.2.2.1 _ _ (.slice bp bn bc) O z hOz (HH.out.2.2.2.1.below hWz HH.out.2.2.1) ⟨_, _, _, rfl⟩ (HT.out.1.below hWz HH.out.2.2.1) HT.out.2.2.2.2.1
    obtain ⟨b0, b1, b2, b3, b4, b5, b6, b7, b8⟩ := nd_cells vz
    have p0 := S.cell_of z _ 0 _ 35 _ pz rfl
    have p1 := S.cell_of z _ 1 _ 35 _ pz rfl
    have HZ := hid (And.intro zb (And.intro vz (And.intro pz hWz)))
    clear zb vz pz hWz hOz
    go_wp2_with fail
    refine hc1.mono ?_
    rintro e w2 ⟨v2, rfl, k2, nv2⟩
    obtain ⟨q3, d3, rfl, _, _⟩ := nv2.ex
    have vb2 := (k2.block _ (S.lt_of HZ.out.2.1)).trans HZ.out.2.1
    clear hc1 b0 b1 b2 b3 b4 b5 b6 b7 b8 p0 p1
    obtain ⟨b0, b1, b2, b3, b4, b5, b6, b7, b8⟩ := nd_cells vb2
    have f4 := S.frozen_of w2 wr.heap.size 4 _ 30 vb2
    obtain ⟨z2, hz2⟩ : ∃ z2, w2.setCell ⟨wr.heap.size, 4, none⟩ (.slice q3 (ots xr ds n.th).length d3) = z2 := ⟨_, rfl⟩
    have vz2 : z2.heap[wr.heap.size]? = some (.cells (ndc ⟨n.k, n.op, (bits .xor .u16 n.v 23205), n.nm, n.th, n.el, n.has, (n.p.2, n.p.1)⟩ (.slice q3 (ots xr ds n.th).length d3) (.slice q2 n.el.length d2)).toArray 30 (0, 0)) := by rw [<- hz2]; exact S.setCell_heap w2 wr.heap.size 4 _ 30 _ vb2
    have ks2 : Below wr.heap.size wr z2 := by rw [<- hz2]; exact (HZ.out.1.trans (k2.mono HZ.out.1.size)).setCell (p := ⟨wr.heap.size, 4, none⟩) (Nat.le_refl _) _
    have nz2 : NV z2 (Nw z w2) (.slice q3 (ots xr ds n.th).length d3) (ots xr ds n.th) := nv2.kept (fun j hj => by rw [<- hz2]; exact S.setCell_other w2 wr.heap.size 4 j _ (by have := hj.1; have := S.lt_of HZ.out.2.1; omega)) (fun _ h => h)
    have sz2 : z2.heap.size = w2.heap.size := by rw [<- hz2]; exact S.setCell_size _ _ _
    have hWz2 : Below W.heap.size W z2 := bch2 HW.out HW.out.size ks2
    have pz2 := (ks2.block _ (S.lt_of HP.out)).trans HP.out
    have hOz2 : ∀ j, O j -> j < z2.heap.size := fun j hj => Nat.lt_of_lt_of_le (HH.out.2.2.1 j hj) hWz2.size
    have hc2 := HT.out.2.2.2.1 _ _ (.slice bp bn bc) O z2 hOz2 (HH.out.2.2.2.1.below hWz2 HH.out.2.2.1) ⟨_, _, _, rfl⟩ (HT.out.2.1.below hWz2 HH.out.2.2.1) HT.out.2.2.2.2.2
    obtain ⟨s0, s1, s2, s3, s4, s5, s6, s7, s8⟩ := nd_cells vz2
    have p0 := S.cell_of z2 _ 0 _ 35 _ pz2 rfl
    have p1 := S.cell_of z2 _ 1 _ 35 _ pz2 rfl
    have HZ2 := hid (And.intro ks2 (And.intro vz2 (And.intro nz2 (And.intro sz2 (And.intro (Nat.le_of_lt (S.lt_of HZ.out.2.1)) k2.size)))))
    have HZS := hid (S.lt_of HZ.out.2.1)
    clear vb2 vz2 ks2 nz2 sz2 hWz2 pz2 hOz2 nv2 k2
    go_wp2_with fail
    refine hc2.mono ?_
    rintro e w3 ⟨v3, rfl, k3, nv3⟩
    obtain ⟨q4, d4, rfl, _, _⟩ := nv3.ex
    have vb3 := (k3.block _ (S.lt_of HZ2.out.2.1)).trans HZ2.out.2.1
    clear hc2 b0 b1 b2 b3 b4 b5 b6 b7 b8 p0 p1 s0 s1 s2 s3 s4 s5 s6 s7 s8 hz2 f4
    obtain ⟨b0, b1, b2, b3, b4, b5, b6, b7, b8⟩ := nd_cells vb3
    have f5 := S.frozen_of w3 wr.heap.size 5 _ 30 vb3
    obtain ⟨z3, hz3⟩ : ∃ z3, w3.setCell ⟨wr.heap.size, 5, none⟩ (.slice q4 (ots xr ds n.el).length d4) = z3 := ⟨_, rfl⟩
    have vz3 : z3.heap[wr.heap.size]? = some (.cells (ndc ⟨n.k, n.op, (bits .xor .u16 n.v 23205), n.nm, ots xr ds n.th, ots xr ds n.el, n.has, (n.p.2, n.p.1)⟩ (.slice q3 (ots xr ds n.th).length d3) (.slice q4 (ots xr ds n.el).length d4)).toArray 30 (0, 0)) := by rw [<- hz3]; exact S.setCell_heap w3 wr.heap.size 5 _ 30 _ vb3
    have ks3 : Below wr.heap.size wr z3 := by rw [<- hz3]; exact (HZ2.out.1.trans (k3.mono HZ2.out.1.size)).setCell (p := ⟨wr.heap.size, 5, none⟩) (Nat.le_refl _) _
    have sz3 : z3.heap.size = w3.heap.size := by rw [<- hz3]; exact S.setCell_size _ _ _
    have blk3 : ∀ j, j ≠ wr.heap.size -> z3.heap[j]? = w3.heap[j]? := fun j hj => by rw [<- hz3]; exact S.setCell_other w3 wr.heap.size 5 j _ hj
    obtain ⟨s0, s1, s2, s3, s4, s5, s6, s7, s8⟩ := nd_cells vz3
    obtain ⟨y4, hy4⟩ : ∃ y4, z3.alloc (.cells #[.int .i64 n.k, .int .i64 n.op, .int .u16 (bits .xor .u16 n.v 23205), .string n.nm, (.slice q3 (ots xr ds n.th).length d3), (.slice q4 (ots xr ds n.el).length d4), .bool n.has, .int .i64 n.p.2, .int .i64 n.p.1] 30) = y4 := ⟨_, rfl⟩
    have k4 : Below z3.heap.size z3 y4 := by rw [<- hy4]; exact (Below.refl _ _).alloc (Nat.le_refl _) _
    have v4 : y4.heap[z3.heap.size]? = some (.cells (ndc ⟨n.k, n.op, (bits .xor .u16 n.v 23205), n.nm, ots xr ds n.th, ots xr ds n.el, n.has, (n.p.2, n.p.1)⟩ (.slice q3 (ots xr ds n.th).length d3) (.slice q4 (ots xr ds n.el).length d4)).toArray 30 (0, 0)) := by rw [<- hy4]; exact heap_alloc_new z3 _
    have kw4 : Below wr.heap.size wr y4 := bch2 ks3 ks3.size k4
    have hW0w := HY.out.2.2.2.2.2.2
    have oR : y4.ownsRow W0.heap.size 30 9 (.slice q k qc) k cs := S.own_kept HY.out.2.2.2.2.1 fun g _ hg => kw4.block g hg
    have hcs : S.Cs y4 (.slice (some ⟨z3.heap.size, 0, none⟩) 1 1) 9 1 (ndc ⟨n.k, n.op, (bits .xor .u16 n.v 23205), n.nm, ots xr ds n.th, ots xr ds n.el, n.has, (n.p.2, n.p.1)⟩ (.slice q3 (ots xr ds n.th).length d3) (.slice q4 (ots xr ds n.el).length d4)) := .inr ⟨_, _, rfl, rfl, fun j u hj => by rw [Addr.add_lit, Nat.zero_add]; exact S.cell_of y4 _ j _ _ u v4 hj, fun u hu => by simp [ndc] at hu; rcases hu with rfl | rfl | rfl | rfl | rfl | rfl | rfl | rfl | rfl <;> rfl⟩
    have n3 : NV y4 (Nw z w2) (.slice q3 (ots xr ds n.th).length d3) (ots xr ds n.th) := HZ2.out.2.2.1.kept (fun j hj => by
     have a1 := hj.1
     have a2 := hj.2
     have a3 := HZS.out
     have a4 := HZ2.out.2.2.2.1
     have a5 := k3.size
     exact (k4.block j (by omega)).trans ((blk3 j (by omega)).trans (k3.block j (by omega)))) (fun _ h => h)
    have n4 : NV y4 (Nw z2 w3) (.slice q4 (ots xr ds n.el).length d4) (ots xr ds n.el) := nv3.kept (fun j hj => by
     have a1 := hj.1
     have a2 := hj.2
     have a3 := HZS.out
     have a4 := HZ2.out.2.2.2.1
     have a5 := HZ2.out.2.2.2.2.2
     exact (k4.block j (by omega)).trans (blk3 j (by omega))) (fun _ h => h)
    have hsz4 : W0.heap.size <= y4.heap.size := Nat.le_trans hW0w kw4.size
    have HF := hid (And.intro kw4 (And.intro n3 (And.intro n4 (And.intro (show w2.heap.size <= y4.heap.size /\ w3.heap.size <= y4.heap.size by have := k3.size; have := k4.size; have := HZ2.out.2.2.2.1; omega) (show wr.heap.size < z.heap.size /\ wr.heap.size < z2.heap.size by have := HZS.out; have := HZ2.out.2.2.2.1; have := HZ2.out.2.2.2.2.2; omega)))))
    have HYY := hid hy4
    clear vb3 vz3 ks3 sz3 blk3 k4 v4 kw4 n3 n4 hy4 k3 nv3 hW0w
    go_wp2_with (rw [HYY.out]; refine S.wpList_append_row y4 rfl _ _ 22 30 _ 9 112 Tryz.underlying22 infoNd rfl (by decide) rfl W0.heap.size (.slice q k qc) k cs rfl oR _ 1 _ rfl hcs (by unfold S.room; omega) (by unfold maxLen; omega) hsz4 (fun v5 w5 hr1 hg1 => ?_); have HG := hid (And.intro hr1 hg1); clear hr1 hg1)
    obtain ⟨q5, c5, rfl⟩ := own_sl2 HG.out.1
    have hB5 : Below W0.heap.size W0 w5 := HG.out.2.belowAll (fun g hg => (own_gb oR g hg).1) (HB0.out.trans (HF.out.1.mono HB0.out.size)) (Nat.le_refl _)
    have hgl : ∀ g, (Value.slice q k qc).ownBlock = some g -> g < wr.heap.size := fun g hg => (own_gb HY.out.2.2.2.2.1 g hg).2
    have hkeep : ∀ j, j < y4.heap.size -> some j ≠ (Value.slice q k qc).ownBlock -> W0.heap.size <= j -> w5.heap[j]? = y4.heap[j]? /\ Nx W0 w5 (.slice q5 (k + 1) c5) j := fun j h1 h2 h3 => by
     refine ⟨HG.out.2.block j h1 h2, ⟨h3, Nat.lt_of_lt_of_le h1 HG.out.2.size⟩, ?_⟩
     rcases HG.out.2.own with hh | hh
     ·rw [hh]; exact h2
     ·intro e; have := hh j e.symm; omega
    have hne : ∀ j, wr.heap.size < j -> some j ≠ (Value.slice q k qc).ownBlock := fun j hj e => by have := hgl j e.symm; omega
    refine ⟨⟨k + 1, _, q5, c5, by omega, rfl, by rw [Int.natCast_add]; rfl, hB5, HG.out.1, ?_⟩, by simp only [intOf]; omega⟩
    rw [HY.out.2.2.1]
    refine NC.app ?_ ?_
    ·refine NC.kept (fun j hj => ?_) (fun j hj => ?_) HY.out.2.2.2.2.2.1
     ·have h1 := hj.1.2
      have h4 := HF.out.1.size
      exact (hkeep j (by omega) hj.2 hj.1.1).1.trans (HF.out.1.block j hj.1.2)
     ·have h1 := hj.1.2
      have h4 := HF.out.1.size
      exact (hkeep j (by omega) hj.2 hj.1.1).2
    ·rw [oth_is, if_pos HE.out, if_neg (by have := HE.out; omega)]
     refine ⟨(.slice q3 (ots xr ds n.th).length d3), (.slice q4 (ots xr ds n.el).length d4), [], (List.append_nil _).symm, ?_, ?_, rfl⟩
     ·refine HF.out.2.1.kept (fun j hj => ?_) (fun j hj => ?_)
      ·have h1 := hj.1; have h2 := hj.2; have h3 := HF.out.2.2.2.1.1; have h4 := HF.out.2.2.2.2.1; have h5 := HB0.out.size
       exact (hkeep j (by omega) (hne j (by omega)) (by omega)).1
      ·have h1 := hj.1; have h2 := hj.2; have h3 := HF.out.2.2.2.1.1; have h4 := HF.out.2.2.2.2.1; have h5 := HB0.out.size
       exact (hkeep j (by omega) (hne j (by omega)) (by omega)).2
     ·refine HF.out.2.2.1.kept (fun j hj => ?_) (fun j hj => ?_)
      ·have h1 := hj.1; have h2 := hj.2; have h3 := HF.out.2.2.2.1.2; have h4 := HF.out.2.2.2.2.2; have h5 := HB0.out.size
       exact (hkeep j (by omega) (hne j (by omega)) (by omega)).1
      ·have h1 := hj.1; have h2 := hj.2; have h3 := HF.out.2.2.2.1.2; have h4 := HF.out.2.2.2.2.2; have h5 := HB0.out.size
       exact (hkeep j (by omega) (hne j (by omega)) (by omega)).2
   ·by_cases c3' : n.k = 3
    ·have a1 : 3 <= n.k := by omega
     have a2 : n.k <= 3 := by omega
     have HE := hid c3'
     clear c3' c2'
     have hcr := renamed_any ds hd n.nm _ (.slice bp bn bc) ⟨_, _, _, rfl⟩ O y (fun j hj => Nat.lt_of_lt_of_le (HH.out.2.2.1 j hj) (Nat.le_trans HW.out.size HY.out.2.2.2.1.size)) (HH.out.2.2.2.1.below (bch2 HW.out HW.out.size HY.out.2.2.2.1) HH.out.2.2.1)
     go_wp2_with fail
     refine hcr.mono ?_
     rintro e w1 ⟨rfl, k1⟩
     have v1 := (k1.block _ (S.lt_of HY.out.2.1)).trans HY.out.2.1
     clear hcr c0 c1 c2 c3 c4 c5 c6 c7 c8 hy f3 e0 e1 g0 g1 g2 g3 g4 g5 g6 g7 g8
     generalize hrn : ren ds n.nm = rn at *
     have HRN := hid hrn
     obtain ⟨x1, hx1⟩ : ∃ x1, w1.setCell ⟨wr.heap.size, 3, none⟩ (.string rn) = x1 := ⟨_, rfl⟩
     have u1 : x1.heap[wr.heap.size]? = some (.cells (ndc ⟨n.k, n.op, n.v, rn, n.th, n.el, n.has, n.p⟩ (.slice q1 n.th.length d1) (.slice q2 n.el.length d2)).toArray 30 (0, 0)) := by rw [<- hx1]; exact S.setCell_heap w1 wr.heap.size 3 _ 30 _ v1
     have kx1 : Below wr.heap.size wr x1 := by rw [<- hx1]; exact (HY.out.2.2.2.1.trans (k1.mono HY.out.2.2.2.1.size)).setCell (p := ⟨wr.heap.size, 3, none⟩) (Nat.le_refl _) _
     obtain ⟨x2, hx2⟩ : ∃ x2, x1.setCell ⟨wr.heap.size, 7, none⟩ (.int .i64 n.p.2) = x2 := ⟨_, rfl⟩
     have u2 : x2.heap[wr.heap.size]? = some (.cells (ndc ⟨n.k, n.op, n.v, rn, n.th, n.el, n.has, (n.p.2, n.p.2)⟩ (.slice q1 n.th.length d1) (.slice q2 n.el.length d2)).toArray 30 (0, 0)) := by rw [<- hx2]; exact S.setCell_heap x1 wr.heap.size 7 _ 30 _ u1
     obtain ⟨z, hz⟩ : ∃ z, x2.setCell ⟨wr.heap.size, 8, none⟩ (.int .i64 n.p.1) = z := ⟨_, rfl⟩
     have vz : z.heap[wr.heap.size]? = some (.cells (ndc ⟨n.k, n.op, n.v, rn, n.th, n.el, n.has, (n.p.2, n.p.1)⟩ (.slice q1 n.th.length d1) (.slice q2 n.el.length d2)).toArray 30 (0, 0)) := by rw [<- hz]; exact S.setCell_heap x2 wr.heap.size 8 _ 30 _ u2
     have zb : Below wr.heap.size wr z := by rw [<- hz, <- hx2]; exact (kx1.setCell (p := ⟨wr.heap.size, 7, none⟩) (Nat.le_refl _) _).setCell (p := ⟨wr.heap.size, 8, none⟩) (Nat.le_refl _) _
     have pz := (zb.block _ (S.lt_of HP.out)).trans HP.out
     obtain ⟨m0, m1, m2, m3, m4, m5, m6, m7, m8⟩ := nd_cells v1
     obtain ⟨l0, l1, l2, l3, l4, l5, l6, l7, l8⟩ := nd_cells u1
     obtain ⟨r0, r1, r2, r3, r4, r5, r6, r7, r8⟩ := nd_cells u2
     have f3 := S.frozen_of w1 wr.heap.size 3 _ 30 v1
     have f7 := S.frozen_of x1 wr.heap.size 7 _ 30 u1
     have f8 := S.frozen_of x2 wr.heap.size 8 _ 30 u2
     clear hrn v1 u1 u2 kx1 k1
     go_upto_region 10 with fail
     clear m0 m1 m2 m3 m4 m5 m6 m7 m8 l0 l1 l2 l3 l4 l5 l6 l7 l8 r0 r1 r2 r3 r4 r5 r6 r7 r8 f3 f7 f8 hx1 hx2 hz
     have hOz : ∀ j, O j -> j < z.heap.size := fun j hj => Nat.lt_of_lt_of_le (HH.out.2.2.1 j hj) (Nat.le_trans HW.out.size zb.size)
     have hWz : Below W.heap.size W z := bch2 HW.out HW.out.size zb
     have hc1 := HT.out.2.2.1 _ _ (.slice bp bn bc) O z hOz (HH.out.2.2.2.1.below hWz HH.out.2.2.1) ⟨_, _, _, rfl⟩ (HT.out.1.below hWz HH.out.2.2.1) HT.out.2.2.2.2.1
     obtain ⟨b0, b1, b2, b3, b4, b5, b6, b7, b8⟩ := nd_cells vz
     have p0 := S.cell_of z _ 0 _ 35 _ pz rfl
     have p1 := S.cell_of z _ 1 _ 35 _ pz rfl
     have HZ := hid (And.intro zb (And.intro vz (And.intro pz hWz)))
     clear zb vz pz hWz hOz
     go_wp2_with fail
     refine hc1.mono ?_
     rintro e w2 ⟨v2, rfl, k2, nv2⟩
     obtain ⟨q3, d3, rfl, _, _⟩ := nv2.ex
     have vb2 := (k2.block _ (S.lt_of HZ.out.2.1)).trans HZ.out.2.1
     clear hc1 b0 b1 b2 b3 b4 b5 b6 b7 b8 p0 p1
     obtain ⟨b0, b1, b2, b3, b4, b5, b6, b7, b8⟩ := nd_cells vb2
     have f4 := S.frozen_of w2 wr.heap.size 4 _ 30 vb2
     obtain ⟨z2, hz2⟩ : ∃ z2, w2.setCell ⟨wr.heap.size, 4, none⟩ (.slice q3 (ots xr ds n.th).length d3) = z2 := ⟨_, rfl⟩
     have vz2 : z2.heap[wr.heap.size]? = some (.cells (ndc ⟨n.k, n.op, n.v, rn, n.th, n.el, n.has, (n.p.2, n.p.1)⟩ (.slice q3 (ots xr ds n.th).length d3) (.slice q2 n.el.length d2)).toArray 30 (0, 0)) := by rw [<- hz2]; exact S.setCell_heap w2 wr.heap.size 4 _ 30 _ vb2
     have ks2 : Below wr.heap.size wr z2 := by rw [<- hz2]; exact (HZ.out.1.trans (k2.mono HZ.out.1.size)).setCell (p := ⟨wr.heap.size, 4, none⟩) (Nat.le_refl _) _
     have nz2 : NV z2 (Nw z w2) (.slice q3 (ots xr ds n.th).length d3) (ots xr ds n.th) := nv2.kept (fun j hj => by rw [<- hz2]; exact S.setCell_other w2 wr.heap.size 4 j _ (by have := hj.1; have := S.lt_of HZ.out.2.1; omega)) (fun _ h => h)
     have sz2 : z2.heap.size = w2.heap.size := by rw [<- hz2]; exact S.setCell_size _ _ _
     have hWz2 : Below W.heap.size W z2 := bch2 HW.out HW.out.size ks2
     have pz2 := (ks2.block _ (S.lt_of HP.out)).trans HP.out
     have hOz2 : ∀ j, O j -> j < z2.heap.size := fun j hj => Nat.lt_of_lt_of_le (HH.out.2.2.1 j hj) hWz2.size
     have hc2 := HT.out.2.2.2.1 _ _ (.slice bp bn bc) O z2 hOz2 (HH.out.2.2.2.1.below hWz2 HH.out.2.2.1) ⟨_, _, _, rfl⟩ (HT.out.2.1.below hWz2 HH.out.2.2.1) HT.out.2.2.2.2.2
     obtain ⟨s0, s1, s2, s3, s4, s5, s6, s7, s8⟩ := nd_cells vz2
     have p0 := S.cell_of z2 _ 0 _ 35 _ pz2 rfl
     have p1 := S.cell_of z2 _ 1 _ 35 _ pz2 rfl
     have HZ2 := hid (And.intro ks2 (And.intro vz2 (And.intro nz2 (And.intro sz2 (And.intro (Nat.le_of_lt (S.lt_of HZ.out.2.1)) k2.size)))))
     have HZS := hid (S.lt_of HZ.out.2.1)
     clear vb2 vz2 ks2 nz2 sz2 hWz2 pz2 hOz2 nv2 k2
     go_wp2_with fail
     refine hc2.mono ?_
     rintro e w3 ⟨v3, rfl, k3, nv3⟩
     obtain ⟨q4, d4, rfl, _, _⟩ := nv3.ex
     have vb3 := (k3.block _ (S.lt_of HZ2.out.2.1)).trans HZ2.out.2.1
     clear hc2 b0 b1 b2 b3 b4 b5 b6 b7 b8 p0 p1 s0 s1 s2 s3 s4 s5 s6 s7 s8 hz2 f4
     obtain ⟨b0, b1, b2, b3, b4, b5, b6, b7, b8⟩ := nd_cells vb3
     have f5 := S.frozen_of w3 wr.heap.size 5 _ 30 vb3
     obtain ⟨z3, hz3⟩ : ∃ z3, w3.setCell ⟨wr.heap.size, 5, none⟩ (.slice q4 (ots xr ds n.el).length d4) = z3 := ⟨_, rfl⟩
     have vz3 : z3.heap[wr.heap.size]? = some (.cells (ndc ⟨n.k, n.op, n.v, rn, ots xr ds n.th, ots xr ds n.el, n.has, (n.p.2, n.p.1)⟩ (.slice q3 (ots xr ds n.th).length d3) (.slice q4 (ots xr ds n.el).length d4)).toArray 30 (0, 0)) := by rw [<- hz3]; exact S.setCell_heap w3 wr.heap.size 5 _ 30 _ vb3
     have ks3 : Below wr.heap.size wr z3 := by rw [<- hz3]; exact (HZ2.out.1.trans (k3.mono HZ2.out.1.size)).setCell (p := ⟨wr.heap.size, 5, none⟩) (Nat.le_refl _) _
     have sz3 : z3.heap.size = w3.heap.size := by rw [<- hz3]; exact S.setCell_size _ _ _
     have blk3 : ∀ j, j ≠ wr.heap.size -> z3.heap[j]? = w3.heap[j]? := fun j hj => by rw [<- hz3]; exact S.setCell_other w3 wr.heap.size 5 j _ hj
     obtain ⟨s0, s1, s2, s3, s4, s5, s6, s7, s8⟩ := nd_cells vz3
     obtain ⟨y4, hy4⟩ : ∃ y4, z3.alloc (.cells #[.int .i64 n.k, .int .i64 n.op, .int .u16 n.v, .string rn, (.slice q3 (ots xr ds n.th).length d3), (.slice q4 (ots xr ds n.el).length d4), .bool n.has, .int .i64 n.p.2, .int .i64 n.p.1] 30) = y4 := ⟨_, rfl⟩
     have k4 : Below z3.heap.size z3 y4 := by rw [<- hy4]; exact (Below.refl _ _).alloc (Nat.le_refl _) _
     have v4 : y4.heap[z3.heap.size]? = some (.cells (ndc ⟨n.k, n.op, n.v, rn, ots xr ds n.th, ots xr ds n.el, n.has, (n.p.2, n.p.1)⟩ (.slice q3 (ots xr ds n.th).length d3) (.slice q4 (ots xr ds n.el).length d4)).toArray 30 (0, 0)) := by rw [<- hy4]; exact heap_alloc_new z3 _
     have kw4 : Below wr.heap.size wr y4 := bch2 ks3 ks3.size k4
     have hW0w := HY.out.2.2.2.2.2.2
     have oR : y4.ownsRow W0.heap.size 30 9 (.slice q k qc) k cs := S.own_kept HY.out.2.2.2.2.1 fun g _ hg => kw4.block g hg
     have hcs : S.Cs y4 (.slice (some ⟨z3.heap.size, 0, none⟩) 1 1) 9 1 (ndc ⟨n.k, n.op, n.v, rn, ots xr ds n.th, ots xr ds n.el, n.has, (n.p.2, n.p.1)⟩ (.slice q3 (ots xr ds n.th).length d3) (.slice q4 (ots xr ds n.el).length d4)) := .inr ⟨_, _, rfl, rfl, fun j u hj => by rw [Addr.add_lit, Nat.zero_add]; exact S.cell_of y4 _ j _ _ u v4 hj, fun u hu => by simp [ndc] at hu; rcases hu with rfl | rfl | rfl | rfl | rfl | rfl | rfl | rfl | rfl <;> rfl⟩
     have n3 : NV y4 (Nw z w2) (.slice q3 (ots xr ds n.th).length d3) (ots xr ds n.th) := HZ2.out.2.2.1.kept (fun j hj => by
      have a1 := hj.1
      have a2 := hj.2
      have a3 := HZS.out
      have a4 := HZ2.out.2.2.2.1
      have a5 := k3.size
      exact (k4.block j (by omega)).trans ((blk3 j (by omega)).trans (k3.block j (by omega)))) (fun _ h => h)
     have n4 : NV y4 (Nw z2 w3) (.slice q4 (ots xr ds n.el).length d4) (ots xr ds n.el) := nv3.kept (fun j hj => by
      have a1 := hj.1
      have a2 := hj.2
      have a3 := HZS.out
      have a4 := HZ2.out.2.2.2.1
      have a5 := HZ2.out.2.2.2.2.2
      exact (k4.block j (by omega)).trans (blk3 j (by omega))) (fun _ h => h)
     have hsz4 : W0.heap.size <= y4.heap.size := Nat.le_trans hW0w kw4.size
     have HF := hid (And.intro kw4 (And.intro n3 (And.intro n4 (And.intro (show w2.heap.size <= y4.heap.size /\ w3.heap.size <= y4.heap.size by have := k3.size; have := k4.size; have := HZ2.out.2.2.2.1; omega) (show wr.heap.size < z.heap.size /\ wr.heap.size < z2.heap.size by have := HZS.out; have := HZ2.out.2.2.2.1; have := HZ2.out.2.2.2.2.2; omega)))))
     have HYY := hid hy4
     clear vb3 vz3 ks3 sz3 blk3 k4 v4 kw4 n3 n4 hy4 k3 nv3 hW0w
     go_wp2_with (rw [HYY.out]; refine S.wpList_append_row y4 rfl _ _ 22 30 _ 9 112 Tryz.underlying22 infoNd rfl (by decide) rfl W0.heap.size (.slice q k qc) k cs rfl oR _ 1 _ rfl hcs (by unfold S.room; omega) (by unfold maxLen; omega) hsz4 (fun v5 w5 hr1 hg1 => ?_); have HG := hid (And.intro hr1 hg1); clear hr1 hg1)
     obtain ⟨q5, c5, rfl⟩ := own_sl2 HG.out.1
     have hB5 : Below W0.heap.size W0 w5 := HG.out.2.belowAll (fun g hg => (own_gb oR g hg).1) (HB0.out.trans (HF.out.1.mono HB0.out.size)) (Nat.le_refl _)
     have hgl : ∀ g, (Value.slice q k qc).ownBlock = some g -> g < wr.heap.size := fun g hg => (own_gb HY.out.2.2.2.2.1 g hg).2
     have hkeep : ∀ j, j < y4.heap.size -> some j ≠ (Value.slice q k qc).ownBlock -> W0.heap.size <= j -> w5.heap[j]? = y4.heap[j]? /\ Nx W0 w5 (.slice q5 (k + 1) c5) j := fun j h1 h2 h3 => by
      refine ⟨HG.out.2.block j h1 h2, ⟨h3, Nat.lt_of_lt_of_le h1 HG.out.2.size⟩, ?_⟩
      rcases HG.out.2.own with hh | hh
      ·rw [hh]; exact h2
      ·intro e; have := hh j e.symm; omega
     have hne : ∀ j, wr.heap.size < j -> some j ≠ (Value.slice q k qc).ownBlock := fun j hj e => by have := hgl j e.symm; omega
     refine ⟨⟨k + 1, _, q5, c5, by omega, rfl, by rw [Int.natCast_add]; rfl, hB5, HG.out.1, ?_⟩, by simp only [intOf]; omega⟩
     rw [HY.out.2.2.1]
     refine NC.app ?_ ?_
     ·refine NC.kept (fun j hj => ?_) (fun j hj => ?_) HY.out.2.2.2.2.2.1
      ·have h1 := hj.1.2
       have h4 := HF.out.1.size
       exact (hkeep j (by omega) hj.2 hj.1.1).1.trans (HF.out.1.block j hj.1.2)
      ·have h1 := hj.1.2
       have h4 := HF.out.1.size
       exact (hkeep j (by omega) hj.2 hj.1.1).2
     ·rw [oth_is, if_neg (by have := HE.out; omega), if_pos HE.out, HRN.out]
      refine ⟨(.slice q3 (ots xr ds n.th).length d3), (.slice q4 (ots xr ds n.el).length d4), [], (List.append_nil _).symm, ?_, ?_, rfl⟩
      ·refine HF.out.2.1.kept (fun j hj => ?_) (fun j hj => ?_)
       ·have h1 := hj.1; have h2 := hj.2; have h3 := HF.out.2.2.2.1.1; have h4 := HF.out.2.2.2.2.1; have h5 := HB0.out.size
        exact (hkeep j (by omega) (hne j (by omega)) (by omega)).1
       ·have h1 := hj.1; have h2 := hj.2; have h3 := HF.out.2.2.2.1.1; have h4 := HF.out.2.2.2.2.1; have h5 := HB0.out.size
        exact (hkeep j (by omega) (hne j (by omega)) (by omega)).2
      ·refine HF.out.2.2.1.kept (fun j hj => ?_) (fun j hj => ?_)
       ·have h1 := hj.1; have h2 := hj.2; have h3 := HF.out.2.2.2.1.2; have h4 := HF.out.2.2.2.2.2; have h5 := HB0.out.size
        exact (hkeep j (by omega) (hne j (by omega)) (by omega)).1
       ·have h1 := hj.1; have h2 := hj.2; have h3 := HF.out.2.2.2.1.2; have h4 := HF.out.2.2.2.2.2; have h5 := HB0.out.size
        exact (hkeep j (by omega) (hne j (by omega)) (by omega)).2
    ·have e0' := And.intro c2' c3'
     clear hy c0 c1 c2 c3 c4 c5 c6 c7 c8 e0 e1 f3
     have HE := hid e0'
     clear e0'
     go_upto_region 10 with fail
     obtain ⟨z, hz⟩ : ∃ z, wr.alloc (.cells #[.int .i64 n.k, .int .i64 n.op, .int .u16 n.v, .string n.nm, .slice q1 n.th.length d1, .slice q2 n.el.length d2, .bool n.has, .int .i64 n.p.2, .int .i64 n.p.1] 30) = z := ⟨_, rfl⟩
     rw [hz]
     have zb : Below wr.heap.size wr z := by rw [<- hz]; exact (Below.refl _ _).alloc (Nat.le_refl _) _
     have vz : z.heap[wr.heap.size]? = some (.cells (ndc ⟨n.k, n.op, n.v, n.nm, n.th, n.el, n.has, (n.p.2, n.p.1)⟩ (.slice q1 n.th.length d1) (.slice q2 n.el.length d2)).toArray 30 (0, 0)) := by rw [<- hz]; exact heap_alloc_new wr _
     have pz := (zb.block _ (S.lt_of HP.out)).trans HP.out
     clear hz g0 g1 g2 g3 g4 g5 g6 g7 g8
     have hOz : ∀ j, O j -> j < z.heap.size := fun j hj => Nat.lt_of_lt_of_le (HH.out.2.2.1 j hj) (Nat.le_trans HW.out.size zb.size)
     have hWz : Below W.heap.size W z := bch2 HW.out HW.out.size zb
     have hc1 := HT.out.2.2.1 _ _ (.slice bp bn bc) O z hOz (HH.out.2.2.2.1.below hWz HH.out.2.2.1) ⟨_, _, _, rfl⟩ (HT.out.1.below hWz HH.out.2.2.1) HT.out.2.2.2.2.1
     obtain ⟨b0, b1, b2, b3, b4, b5, b6, b7, b8⟩ := nd_cells vz
     have p0 := S.cell_of z _ 0 _ 35 _ pz rfl
     have p1 := S.cell_of z _ 1 _ 35 _ pz rfl
     have HZ := hid (And.intro zb (And.intro vz (And.intro pz hWz)))
     clear zb vz pz hWz hOz
     go_wp2_with fail
     refine hc1.mono ?_
     rintro e w2 ⟨v2, rfl, k2, nv2⟩
     obtain ⟨q3, d3, rfl, _, _⟩ := nv2.ex
     have vb2 := (k2.block _ (S.lt_of HZ.out.2.1)).trans HZ.out.2.1
     clear hc1 b0 b1 b2 b3 b4 b5 b6 b7 b8 p0 p1
     obtain ⟨b0, b1, b2, b3, b4, b5, b6, b7, b8⟩ := nd_cells vb2
     have f4 := S.frozen_of w2 wr.heap.size 4 _ 30 vb2
     obtain ⟨z2, hz2⟩ : ∃ z2, w2.setCell ⟨wr.heap.size, 4, none⟩ (.slice q3 (ots xr ds n.th).length d3) = z2 := ⟨_, rfl⟩
     have vz2 : z2.heap[wr.heap.size]? = some (.cells (ndc ⟨n.k, n.op, n.v, n.nm, n.th, n.el, n.has, (n.p.2, n.p.1)⟩ (.slice q3 (ots xr ds n.th).length d3) (.slice q2 n.el.length d2)).toArray 30 (0, 0)) := by rw [<- hz2]; exact S.setCell_heap w2 wr.heap.size 4 _ 30 _ vb2
     have ks2 : Below wr.heap.size wr z2 := by rw [<- hz2]; exact (HZ.out.1.trans (k2.mono HZ.out.1.size)).setCell (p := ⟨wr.heap.size, 4, none⟩) (Nat.le_refl _) _
     have nz2 : NV z2 (Nw z w2) (.slice q3 (ots xr ds n.th).length d3) (ots xr ds n.th) := nv2.kept (fun j hj => by rw [<- hz2]; exact S.setCell_other w2 wr.heap.size 4 j _ (by have := hj.1; have := S.lt_of HZ.out.2.1; omega)) (fun _ h => h)
     have sz2 : z2.heap.size = w2.heap.size := by rw [<- hz2]; exact S.setCell_size _ _ _
     have hWz2 : Below W.heap.size W z2 := bch2 HW.out HW.out.size ks2
     have pz2 := (ks2.block _ (S.lt_of HP.out)).trans HP.out
     have hOz2 : ∀ j, O j -> j < z2.heap.size := fun j hj => Nat.lt_of_lt_of_le (HH.out.2.2.1 j hj) hWz2.size
     have hc2 := HT.out.2.2.2.1 _ _ (.slice bp bn bc) O z2 hOz2 (HH.out.2.2.2.1.below hWz2 HH.out.2.2.1) ⟨_, _, _, rfl⟩ (HT.out.2.1.below hWz2 HH.out.2.2.1) HT.out.2.2.2.2.2
     obtain ⟨s0, s1, s2, s3, s4, s5, s6, s7, s8⟩ := nd_cells vz2
     have p0 := S.cell_of z2 _ 0 _ 35 _ pz2 rfl
     have p1 := S.cell_of z2 _ 1 _ 35 _ pz2 rfl
     have HZ2 := hid (And.intro ks2 (And.intro vz2 (And.intro nz2 (And.intro sz2 (And.intro (Nat.le_of_lt (S.lt_of HZ.out.2.1)) k2.size)))))
     have HZS := hid (S.lt_of HZ.out.2.1)
     clear vb2 vz2 ks2 nz2 sz2 hWz2 pz2 hOz2 nv2 k2
     go_wp2_with fail
     refine hc2.mono ?_
     rintro e w3 ⟨v3, rfl, k3, nv3⟩
     obtain ⟨q4, d4, rfl, _, _⟩ := nv3.ex
     have vb3 := (k3.block _ (S.lt_of HZ2.out.2.1)).trans HZ2.out.2.1
     clear hc2 b0 b1 b2 b3 b4 b5 b6 b7 b8 p0 p1 s0 s1 s2 s3 s4 s5 s6 s7 s8 hz2 f4
     obtain ⟨b0, b1, b2, b3, b4, b5, b6, b7, b8⟩ := nd_cells vb3
     have f5 := S.frozen_of w3 wr.heap.size 5 _ 30 vb3
     obtain ⟨z3, hz3⟩ : ∃ z3, w3.setCell ⟨wr.heap.size, 5, none⟩ (.slice q4 (ots xr ds n.el).length d4) = z3 := ⟨_, rfl⟩
     have vz3 : z3.heap[wr.heap.size]? = some (.cells (ndc ⟨n.k, n.op, n.v, n.nm, ots xr ds n.th, ots xr ds n.el, n.has, (n.p.2, n.p.1)⟩ (.slice q3 (ots xr ds n.th).length d3) (.slice q4 (ots xr ds n.el).length d4)).toArray 30 (0, 0)) := by rw [<- hz3]; exact S.setCell_heap w3 wr.heap.size 5 _ 30 _ vb3
     have ks3 : Below wr.heap.size wr z3 := by rw [<- hz3]; exact (HZ2.out.1.trans (k3.mono HZ2.out.1.size)).setCell (p := ⟨wr.heap.size, 5, none⟩) (Nat.le_refl _) _
     have sz3 : z3.heap.size = w3.heap.size := by rw [<- hz3]; exact S.setCell_size _ _ _
     have blk3 : ∀ j, j ≠ wr.heap.size -> z3.heap[j]? = w3.heap[j]? := fun j hj => by rw [<- hz3]; exact S.setCell_other w3 wr.heap.size 5 j _ hj
     obtain ⟨s0, s1, s2, s3, s4, s5, s6, s7, s8⟩ := nd_cells vz3
     obtain ⟨y4, hy4⟩ : ∃ y4, z3.alloc (.cells #[.int .i64 n.k, .int .i64 n.op, .int .u16 n.v, .string n.nm, (.slice q3 (ots xr ds n.th).length d3), (.slice q4 (ots xr ds n.el).length d4), .bool n.has, .int .i64 n.p.2, .int .i64 n.p.1] 30) = y4 := ⟨_, rfl⟩
     have k4 : Below z3.heap.size z3 y4 := by rw [<- hy4]; exact (Below.refl _ _).alloc (Nat.le_refl _) _
     have v4 : y4.heap[z3.heap.size]? = some (.cells (ndc ⟨n.k, n.op, n.v, n.nm, ots xr ds n.th, ots xr ds n.el, n.has, (n.p.2, n.p.1)⟩ (.slice q3 (ots xr ds n.th).length d3) (.slice q4 (ots xr ds n.el).length d4)).toArray 30 (0, 0)) := by rw [<- hy4]; exact heap_alloc_new z3 _
     have kw4 : Below wr.heap.size wr y4 := bch2 ks3 ks3.size k4
     have hW0w := HY.out.2.2.2.2.2.2
     have oR : y4.ownsRow W0.heap.size 30 9 (.slice q k qc) k cs := S.own_kept HY.out.2.2.2.2.1 fun g _ hg => kw4.block g hg
     have hcs : S.Cs y4 (.slice (some ⟨z3.heap.size, 0, none⟩) 1 1) 9 1 (ndc ⟨n.k, n.op, n.v, n.nm, ots xr ds n.th, ots xr ds n.el, n.has, (n.p.2, n.p.1)⟩ (.slice q3 (ots xr ds n.th).length d3) (.slice q4 (ots xr ds n.el).length d4)) := .inr ⟨_, _, rfl, rfl, fun j u hj => by rw [Addr.add_lit, Nat.zero_add]; exact S.cell_of y4 _ j _ _ u v4 hj, fun u hu => by simp [ndc] at hu; rcases hu with rfl | rfl | rfl | rfl | rfl | rfl | rfl | rfl | rfl <;> rfl⟩
     have n3 : NV y4 (Nw z w2) (.slice q3 (ots xr ds n.th).length d3) (ots xr ds n.th) := HZ2.out.2.2.1.kept (fun j hj => by
      have a1 := hj.1
      have a2 := hj.2
      have a3 := HZS.out
      have a4 := HZ2.out.2.2.2.1
      have a5 := k3.size
      exact (k4.block j (by omega)).trans ((blk3 j (by omega)).trans (k3.block j (by omega)))) (fun _ h => h)
     have n4 : NV y4 (Nw z2 w3) (.slice q4 (ots xr ds n.el).length d4) (ots xr ds n.el) := nv3.kept (fun j hj => by
      have a1 := hj.1
      have a2 := hj.2
      have a3 := HZS.out
      have a4 := HZ2.out.2.2.2.1
      have a5 := HZ2.out.2.2.2.2.2
      exact (k4.block j (by omega)).trans (blk3 j (by omega))) (fun _ h => h)
     have hsz4 : W0.heap.size <= y4.heap.size := Nat.le_trans hW0w kw4.size
     have HF := hid (And.intro kw4 (And.intro n3 (And.intro n4 (And.intro (show w2.heap.size <= y4.heap.size /\ w3.heap.size <= y4.heap.size by have := k3.size; have := k4.size; have := HZ2.out.2.2.2.1; omega) (show wr.heap.size < z.heap.size /\ wr.heap.size < z2.heap.size by have := HZS.out; have := HZ2.out.2.2.2.1; have := HZ2.out.2.2.2.2.2; omega)))))
     have HYY := hid hy4
     clear vb3 vz3 ks3 sz3 blk3 k4 v4 kw4 n3 n4 hy4 k3 nv3 hW0w
     go_wp2_with (rw [HYY.out]; refine S.wpList_append_row y4 rfl _ _ 22 30 _ 9 112 Tryz.underlying22 infoNd rfl (by decide) rfl W0.heap.size (.slice q k qc) k cs rfl oR _ 1 _ rfl hcs (by unfold S.room; omega) (by unfold maxLen; omega) hsz4 (fun v5 w5 hr1 hg1 => ?_); have HG := hid (And.intro hr1 hg1); clear hr1 hg1)
     obtain ⟨q5, c5, rfl⟩ := own_sl2 HG.out.1
     have hB5 : Below W0.heap.size W0 w5 := HG.out.2.belowAll (fun g hg => (own_gb oR g hg).1) (HB0.out.trans (HF.out.1.mono HB0.out.size)) (Nat.le_refl _)
     have hgl : ∀ g, (Value.slice q k qc).ownBlock = some g -> g < wr.heap.size := fun g hg => (own_gb HY.out.2.2.2.2.1 g hg).2
     have hkeep : ∀ j, j < y4.heap.size -> some j ≠ (Value.slice q k qc).ownBlock -> W0.heap.size <= j -> w5.heap[j]? = y4.heap[j]? /\ Nx W0 w5 (.slice q5 (k + 1) c5) j := fun j h1 h2 h3 => by
      refine ⟨HG.out.2.block j h1 h2, ⟨h3, Nat.lt_of_lt_of_le h1 HG.out.2.size⟩, ?_⟩
      rcases HG.out.2.own with hh | hh
      ·rw [hh]; exact h2
      ·intro e; have := hh j e.symm; omega
     have hne : ∀ j, wr.heap.size < j -> some j ≠ (Value.slice q k qc).ownBlock := fun j hj e => by have := hgl j e.symm; omega
     refine ⟨⟨k + 1, _, q5, c5, by omega, rfl, by rw [Int.natCast_add]; rfl, hB5, HG.out.1, ?_⟩, by simp only [intOf]; omega⟩
     rw [HY.out.2.2.1]
     refine NC.app ?_ ?_
     ·refine NC.kept (fun j hj => ?_) (fun j hj => ?_) HY.out.2.2.2.2.2.1
      ·have h1 := hj.1.2
       have h4 := HF.out.1.size
       exact (hkeep j (by omega) hj.2 hj.1.1).1.trans (HF.out.1.block j hj.1.2)
      ·have h1 := hj.1.2
       have h4 := HF.out.1.size
       exact (hkeep j (by omega) hj.2 hj.1.1).2
     ·rw [oth_is, if_neg HE.out.1, if_neg HE.out.2]
      refine ⟨(.slice q3 (ots xr ds n.th).length d3), (.slice q4 (ots xr ds n.el).length d4), [], (List.append_nil _).symm, ?_, ?_, rfl⟩
      ·refine HF.out.2.1.kept (fun j hj => ?_) (fun j hj => ?_)
       ·have h1 := hj.1; have h2 := hj.2; have h3 := HF.out.2.2.2.1.1; have h4 := HF.out.2.2.2.2.1; have h5 := HB0.out.size
        exact (hkeep j (by omega) (hne j (by omega)) (by omega)).1
       ·have h1 := hj.1; have h2 := hj.2; have h3 := HF.out.2.2.2.1.1; have h4 := HF.out.2.2.2.2.1; have h5 := HB0.out.size
        exact (hkeep j (by omega) (hne j (by omega)) (by omega)).2
      ·refine HF.out.2.2.1.kept (fun j hj => ?_) (fun j hj => ?_)
       ·have h1 := hj.1; have h2 := hj.2; have h3 := HF.out.2.2.2.1.2; have h4 := HF.out.2.2.2.2.2; have h5 := HB0.out.size
        exact (hkeep j (by omega) (hne j (by omega)) (by omega)).1
       ·have h1 := hj.1; have h2 := hj.2; have h3 := HF.out.2.2.2.1.2; have h4 := HF.out.2.2.2.2.2; have h5 := HB0.out.size
        exact (hkeep j (by omega) (hne j (by omega)) (by omega)).2
  ·have i1 : ¬ (k : Int) < l.length := by omega
   rw [List.take_of_length_le (by omega)] at hC
   have hkl : k = (ots xr ds l).length := by unfold ots; rw [List.length_map]; omega
   have hnv : NV wr (Nw W wr) (.slice q k qc) (ots xr ds l) := by
    have hR2 : wr.ownsRow W0.heap.size 30 9 (.slice q k qc) (ots xr ds l).length cs := by rw [<- hkl]; exact hR
    have hs := HH.out.2.2.2.2.2
    exact own_nv hR2 (NC.kept (fun _ _ => rfl) (fun j hj => by have := hj.1; exact ⟨by omega, this.2⟩) hC) (by unfold ots; rw [List.length_map]; omega) (fun g hg => by have := own_gb hR2 g hg; exact ⟨by omega, this.2⟩)
   have HE := hid (And.intro (bch2 HH.out.1 HH.out.1.size hb) hnv)
   clear hC hR hnv hkl
   go_wp2
   go_ret
   exact ⟨_, rfl, HE.out.1, HE.out.2⟩
theorem other_any (ds : List Df) (hd : ds.length <= 1048576) (l : List Nd) : OTE ds l := other_of ds hd l fun m _ =>
 Nd.ind (P := fun n => OTE ds n.th /\ OTE ds n.el) (fun n h1 h2 => ⟨other_of ds hd n.th h1, other_of ds hd n.el h2⟩) m
end Go.Proofs.YtlilefhmohkfkaaGreatDoor.E
