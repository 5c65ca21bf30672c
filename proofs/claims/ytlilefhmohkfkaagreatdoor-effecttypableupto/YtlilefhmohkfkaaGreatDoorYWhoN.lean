import Derived.Test.YtlilefhmohkfkaaGreatDoorEDrop
import Derived.Test.YtlilefhmohkfkaaGreatDoorYBank
import Derived.Deep.RegionHeld3
import Derived.Laws.StructEq
import Derived.Deep.DeepCutAuto
namespace Go.Proofs.YtlilefhmohkfkaaGreatDoor.Y
open Go.RowKit
open Go.Proofs
set_option linter.unusedVariables false
set_option linter.unusedSimpArgs false
set_option maxHeartbeats 4000000
set_option maxRecDepth 100000
structure BX (W Y : World) (g h : Nat) (cA cB : List Value) (T : TypeId) : Prop where
 bel : Below W.heap.size W Y
 a : Y.heap[g]? = some (.cells cA.toArray T (0, 0))
 b : Y.heap[h]? = some (.cells cB.toArray T (0, 0))
theorem BX.make {W X : World} {g h : Nat} {cA cB : List Value} {z : Array Value} {T : TypeId} (hb : Below W.heap.size W X) (ha : X.heap[g]? = some (.cells z T (0, 0))) (ga : W.heap.size <= g) (hc : X.heap[h]? = some (.cells z T (0, 0))) (gb : W.heap.size <= h) (hne : g ≠ h) :
  X.heap[g]? = some (.cells z T (0, 0)) /\ Below W.heap.size W (X.setRow g cA.toArray) /\ (X.setRow g cA.toArray).heap[h]? = some (.cells z T (0, 0)) /\ BX W ((X.setRow g cA.toArray).setRow h cB.toArray) g h cA cB T := by
 have k1 : ∀ i, i ≠ g -> (X.setRow g cA.toArray).heap[i]? = X.heap[i]? := fun i hi => setRow_other X g i _ hi
 have k2 : ∀ i, i ≠ h -> ((X.setRow g cA.toArray).setRow h cB.toArray).heap[i]? = (X.setRow g cA.toArray).heap[i]? := fun i hi => setRow_other _ h i _ hi
 have z1 : (X.setRow g cA.toArray).heap[h]? = some (.cells z T (0, 0)) := (k1 h (Ne.symm hne)).trans hc
 refine ⟨ha, ⟨hb.os, hb.tape, hb.output, by rw [size_setRow]; exact hb.size, fun i hi => (k1 i (by omega)).trans (hb.block i hi)⟩, z1, ⟨hb.os, hb.tape, hb.output, by rw [size_setRow, size_setRow]; exact hb.size, fun i hi => (k2 i (by omega)).trans ((k1 i (by omega)).trans (hb.block i hi))⟩, (k2 g hne).trans (setRow_heap X g _ _ _ _ ha), setRow_heap _ h _ _ _ _ z1⟩
def WH (l : List Nd) : Prop := ∀ (v u : Value) (O O' : Nat -> Prop) (W : World), (∀ i, O i -> i < W.heap.size) -> (∀ i, O' i -> i < W.heap.size) -> WN W O v l -> NV W O' u l ->
  Calls Tryz.prog 35 #[v, u] W fun e w' => e = .returned (.bool true) /\ Below W.heap.size W w'
theorem whole_of (l : List Nd) (hn : ∀ m ∈ l, WH m.th /\ WH m.el) : WH l := by
 intro v u O O' W hO hO' hv hu
 obtain ⟨b, c, rfl, hOb, hc, hlen, h77, hcs⟩ := hv.out
 obtain ⟨p2, c2, rfl, hl2, hp2⟩ := hu.ex
 have hc1 : (l.length : Int) + 1 <= (c : Int) := by omega
 have hc2 : l.length + 1 <= c := by omega
 have hc3 : (l.length : Int) < (l.length : Int) + 1 := by omega
 have hc4 : (0 : Int) <= (l.length : Int) + 1 := by omega
 have HH := hid (And.intro hO (And.intro hO' (And.intro hOb (And.intro hcs hp2))))
 clear hv hu hO hO' hOb hcs hp2
 go_enter Tryz.func35, Tryz.ntmps35
 go_wp2
 go_loopw [28] (fun i wr => ∃ k : Nat, k <= l.length /\ i = .int .i64 (k : Int) /\ Below W.heap.size W wr) (fun i _ => l.length - (intOf i).toNat)
 case atStart => exact ⟨0, by omega, rfl, Below.refl _ _⟩
 case round =>
  obtain ⟨k, hk, rfl, hB⟩ := hrel
  by_cases hlt : k < l.length
  ·have i1 : (k : Int) < l.length := by omega
   have ea := List.getElem?_eq_getElem hlt
   have hm := hn l[k] (List.getElem_mem _)
   generalize l[k] = n at *
   obtain ⟨tv, ev, hx, ht, he⟩ := HH.out.2.2.2.1 k n ea
   obtain ⟨b2, o2, rfl, hOb2, hN⟩ := HH.out.2.2.2.2 k n ea
   obtain ⟨tu, eu, hx2, ht2, he2⟩ := hN.ex
   obtain ⟨tb, tc, rfl⟩ := ht.ex
   obtain ⟨eb, ec, rfl⟩ := he.ex
   obtain ⟨q1, d1, rfl, _, _⟩ := ht2.ex
   obtain ⟨q2, d2, rfl, _, _⟩ := he2.ex
   have hmk : ∀ X : World, Below wr.heap.size wr X -> (fun wz : World => wz.cell? ⟨b, k * 9, none⟩ = some (.int .i64 n.k) /\ wz.cell? ⟨b, k * 9 + 1, none⟩ = some (.int .i64 n.op) /\ wz.cell? ⟨b, k * 9 + 2, none⟩ = some (.int .u16 n.v) /\ wz.cell? ⟨b, k * 9 + 3, none⟩ = some (.string n.nm) /\ wz.cell? ⟨b, k * 9 + 4, none⟩ = some (.slice (some ⟨tb, 0, none⟩) n.th.length tc) /\ wz.cell? ⟨b, k * 9 + 5, none⟩ = some (.slice (some ⟨eb, 0, none⟩) n.el.length ec) /\ wz.cell? ⟨b, k * 9 + 6, none⟩ = some (.bool n.has) /\ wz.cell? ⟨b, k * 9 + 7, none⟩ = some (.int .i64 n.p.1) /\ wz.cell? ⟨b, k * 9 + 8, none⟩ = some (.int .i64 n.p.2) /\ wz.cell? ⟨b2, o2 + k * 9, none⟩ = some (.int .i64 n.k) /\ wz.cell? ⟨b2, o2 + k * 9 + 1, none⟩ = some (.int .i64 n.op) /\ wz.cell? ⟨b2, o2 + k * 9 + 2, none⟩ = some (.int .u16 n.v) /\ wz.cell? ⟨b2, o2 + k * 9 + 3, none⟩ = some (.string n.nm) /\ wz.cell? ⟨b2, o2 + k * 9 + 4, none⟩ = some (.slice q1 n.th.length d1) /\ wz.cell? ⟨b2, o2 + k * 9 + 5, none⟩ = some (.slice q2 n.el.length d2) /\ wz.cell? ⟨b2, o2 + k * 9 + 6, none⟩ = some (.bool n.has) /\ wz.cell? ⟨b2, o2 + k * 9 + 7, none⟩ = some (.int .i64 n.p.1) /\ wz.cell? ⟨b2, o2 + k * 9 + 8, none⟩ = some (.int .i64 n.p.2)) X := fun X hX => by
    have hBX := hB.trans (hX.mono hB.size)
    have c1 := cells9 (o := k * 9) fun j x hj => (World.cell?_of_block (w := W) (a := ⟨b, k * 9 + j, none⟩) (hBX.block b (HH.out.1 b HH.out.2.2.1))).trans (hx j x hj)
    have c2 := cells9 fun j x hj => (World.cell?_of_block (w := W) (a := ⟨b2, o2 + k * 9 + j, none⟩) (hBX.block b2 (HH.out.2.1 b2 hOb2))).trans (hx2 j x hj)
    obtain ⟨g0, g1, g2, g3, g4, g5, g6, g7, g8⟩ := c1
    obtain ⟨f0, f1, f2, f3, f4, f5, f6, f7, f8⟩ := c2
    exact ⟨g0, g1, g2, g3, g4, g5, g6, g7, g8, f0, f1, f2, f3, f4, f5, f6, f7, f8⟩
   have HMK := hid hmk
   have HL := hid (And.intro hB (And.intro ht (And.intro he (And.intro ht2 he2))))
   have HB0 := hid (Below.refl wr.heap.size wr).drew
   clear hmk hB ht he ht2 he2 hx hx2 hN ea hn
   go_upto_region 6 with fail
   go_cut [6, 7] (fun s6 s7 wc => ∃ gP gQ, s6 = .pointer (some ⟨gP, 0, none⟩) /\ s7 = .pointer (some ⟨gQ, 0, none⟩) /\ BX wr wc gP gQ (ndc n (.slice (some ⟨tb, 0, none⟩) n.th.length tc) (.slice (some ⟨eb, 0, none⟩) n.el.length ec)) (ndc n (.slice q1 n.th.length d1) (.slice q2 n.el.length d2)) 30)
   case first =>
    refine wp_region_held_drew (S := (fun wz : World => wz.cell? ⟨b, k * 9, none⟩ = some (.int .i64 n.k) /\ wz.cell? ⟨b, k * 9 + 1, none⟩ = some (.int .i64 n.op) /\ wz.cell? ⟨b, k * 9 + 2, none⟩ = some (.int .u16 n.v) /\ wz.cell? ⟨b, k * 9 + 3, none⟩ = some (.string n.nm) /\ wz.cell? ⟨b, k * 9 + 4, none⟩ = some (.slice (some ⟨tb, 0, none⟩) n.th.length tc) /\ wz.cell? ⟨b, k * 9 + 5, none⟩ = some (.slice (some ⟨eb, 0, none⟩) n.el.length ec) /\ wz.cell? ⟨b, k * 9 + 6, none⟩ = some (.bool n.has) /\ wz.cell? ⟨b, k * 9 + 7, none⟩ = some (.int .i64 n.p.1) /\ wz.cell? ⟨b, k * 9 + 8, none⟩ = some (.int .i64 n.p.2) /\ wz.cell? ⟨b2, o2 + k * 9, none⟩ = some (.int .i64 n.k) /\ wz.cell? ⟨b2, o2 + k * 9 + 1, none⟩ = some (.int .i64 n.op) /\ wz.cell? ⟨b2, o2 + k * 9 + 2, none⟩ = some (.int .u16 n.v) /\ wz.cell? ⟨b2, o2 + k * 9 + 3, none⟩ = some (.string n.nm) /\ wz.cell? ⟨b2, o2 + k * 9 + 4, none⟩ = some (.slice q1 n.th.length d1) /\ wz.cell? ⟨b2, o2 + k * 9 + 5, none⟩ = some (.slice q2 n.el.length d2) /\ wz.cell? ⟨b2, o2 + k * 9 + 6, none⟩ = some (.bool n.has) /\ wz.cell? ⟨b2, o2 + k * 9 + 7, none⟩ = some (.int .i64 n.p.1) /\ wz.cell? ⟨b2, o2 + k * 9 + 8, none⟩ = some (.int .i64 n.p.2))) (by kernel_rfl) (HMK.out _ HB0.out) (fun hHeld => ?_)
    generalize wr.drew = y0 at *
    refine E.zH (is := [0, 1, 2, 3, 4, 5, 6, 7]) ?_
    iterate 8
     refine E.yH (v := ?_) rfl (by kernel_rfl) (fun c a w h => h) (by rfl) ?_ hHeld ?_
     rotate_left
     ·(intro w hSw; (try dsimp only at hSw); go_simp; try with_reducible rfl)
     simp only [E.pts]
    refine E.eH ?_
    refine wpAnyH_ready (rs := [8, 9]) (by kernel_rfl) (by simp) ?_
    refine AllReadyH.cons rfl (fun K hK => ?_) ?_
    ·go_simp
     have kk : Below y0.heap.size y0 (y0.alloc (.cells #[.int .i64 0, .int .i64 0, .int .u16 0, .string ⟨#[]⟩, .slice none 0 0, .slice none 0 0, .bool false, .int .i64 0, .int .i64 0] 30)) := (Below.refl _ _).alloc (Nat.le_refl _) _
     have hz : (y0.alloc (.cells #[.int .i64 0, .int .i64 0, .int .u16 0, .string ⟨#[]⟩, .slice none 0 0, .slice none 0 0, .bool false, .int .i64 0, .int .i64 0] 30)).heap[y0.heap.size]? = some (.cells #[.int .i64 0, .int .i64 0, .int .u16 0, .string ⟨#[]⟩, .slice none 0 0, .slice none 0 0, .bool false, .int .i64 0, .int .i64 0] 30 (0, 0)) := heap_alloc_new y0 _
     generalize y0.alloc (.cells #[.int .i64 0, .int .i64 0, .int .u16 0, .string ⟨#[]⟩, .slice none 0 0, .slice none 0 0, .bool false, .int .i64 0, .int .i64 0] 30) = y1 at *
     obtain ⟨gP, hbn⟩ : ∃ bn, y0.heap.size = bn := ⟨_, rfl⟩
     have hz1 : y1.heap[gP]? = some (.cells #[.int .i64 0, .int .i64 0, .int .u16 0, .string ⟨#[]⟩, .slice none 0 0, .slice none 0 0, .bool false, .int .i64 0, .int .i64 0] 30 (0, 0)) := by rw [<- hbn]; exact hz
     have HB1 := hid (HB0.out.trans (kk.mono HB0.out.size))
     have HZ1 := hid (And.intro hz1 (show wr.heap.size <= gP by rw [<- hbn]; exact HB0.out.size))
     rw [hbn]
     refine hK.out _ _ (HMK.out _ HB1.out) (fun hHeld => ?_)
     clear hK K hbn hz hz1 kk
     try simp only [E.pts]
     refine wpAnyH_ready (rs := [9]) (by kernel_rfl) (by simp) ?_
     refine AllReadyH.cons rfl (fun K hK => ?_) AllReadyH.nil
     go_simp
     have kk : Below y1.heap.size y1 (y1.alloc (.cells #[.int .i64 0, .int .i64 0, .int .u16 0, .string ⟨#[]⟩, .slice none 0 0, .slice none 0 0, .bool false, .int .i64 0, .int .i64 0] 30)) := (Below.refl _ _).alloc (Nat.le_refl _) _
     have hz : (y1.alloc (.cells #[.int .i64 0, .int .i64 0, .int .u16 0, .string ⟨#[]⟩, .slice none 0 0, .slice none 0 0, .bool false, .int .i64 0, .int .i64 0] 30)).heap[y1.heap.size]? = some (.cells #[.int .i64 0, .int .i64 0, .int .u16 0, .string ⟨#[]⟩, .slice none 0 0, .slice none 0 0, .bool false, .int .i64 0, .int .i64 0] 30 (0, 0)) := heap_alloc_new y1 _
     generalize y1.alloc (.cells #[.int .i64 0, .int .i64 0, .int .u16 0, .string ⟨#[]⟩, .slice none 0 0, .slice none 0 0, .bool false, .int .i64 0, .int .i64 0] 30) = y2 at *
     obtain ⟨gQ, hbn⟩ : ∃ bn, y1.heap.size = bn := ⟨_, rfl⟩
     have hz1 : y2.heap[gQ]? = some (.cells #[.int .i64 0, .int .i64 0, .int .u16 0, .string ⟨#[]⟩, .slice none 0 0, .slice none 0 0, .bool false, .int .i64 0, .int .i64 0] 30 (0, 0)) := by rw [<- hbn]; exact hz
     have HB2 := hid (HB1.out.trans (kk.mono HB1.out.size))
     have HZ2 := hid (And.intro ((kk.block _ (S.lt_of HZ1.out.1)).trans HZ1.out.1) (And.intro HZ1.out.2 (And.intro hz1 (And.intro (show wr.heap.size <= gQ by rw [<- hbn]; exact HB1.out.size) (show gP ≠ gQ by have := S.lt_of HZ1.out.1; omega)))))
     rw [hbn]
     refine hK.out _ _ (HMK.out _ HB2.out) (fun hHeld => ?_)
     clear hK K hbn hz hz1 kk
     try simp only [E.pts]
     have HQ := hid (BX.make (W := wr) (g := gP) (h := gQ) (cA := ndc n (.slice (some ⟨tb, 0, none⟩) n.th.length tc) (.slice (some ⟨eb, 0, none⟩) n.el.length ec)) (cB := ndc n (.slice q1 n.th.length d1) (.slice q2 n.el.length d2)) HB2.out HZ2.out.1 HZ2.out.2.1 HZ2.out.2.2.1 HZ2.out.2.2.2.1 HZ2.out.2.2.2.2)
     refine wpAnyH_ready (rs := [10]) (by kernel_rfl) (by simp) ?_
     refine AllReadyH.cons rfl (fun K hK => ?_) AllReadyH.nil
     rw [if_pos (by rfl)]
     refine wp_store_row 30 _ _ rfl gP (ndc n (.slice (some ⟨tb, 0, none⟩) n.th.length tc) (.slice (some ⟨eb, 0, none⟩) n.el.length ec)).toArray (by simp [Act.eval]) (by simp [Act.eval, ndc, dfc]) 30 #[.int .i64 0, .int .i64 0, .int .u16 0, .string ⟨#[]⟩, .slice none 0 0, .slice none 0 0, .bool false, .int .i64 0, .int .i64 0] HQ.out.1 (by kernel_rfl) (by rfl) (by simp [Value.oneCell', ndc, dfc]) ?_
     refine hK.out _ _ (HMK.out _ HQ.out.2.1) (fun hHeld => ?_)
     clear hK K
     try simp only [E.pts]
     refine wpAnyH_ready (rs := [11]) (by kernel_rfl) (by simp) ?_
     refine AllReadyH.cons rfl (fun K hK => ?_) AllReadyH.nil
     rw [if_pos (by rfl)]
     refine wp_store_row 30 _ _ rfl gQ (ndc n (.slice q1 n.th.length d1) (.slice q2 n.el.length d2)).toArray (by simp [Act.eval]) (by simp [Act.eval, ndc, dfc]) 30 #[.int .i64 0, .int .i64 0, .int .u16 0, .string ⟨#[]⟩, .slice none 0 0, .slice none 0 0, .bool false, .int .i64 0, .int .i64 0] HQ.out.2.2.1 (by kernel_rfl) (by rfl) (by simp [Value.oneCell', ndc, dfc]) ?_
     refine hK.out _ _ (HMK.out _ HQ.out.2.2.2.bel) (fun hHeld => ?_)
     clear hK K
     try simp only [E.pts]
     refine wpAnyH_done (by kernel_rfl) ?_ _
     have HF := hid HQ.out.2.2.2
     clear hHeld HQ HZ2 HB2 HZ1 HB1
     generalize (y2.setRow gP (ndc n (.slice (some ⟨tb, 0, none⟩) n.th.length tc) (.slice (some ⟨eb, 0, none⟩) n.el.length ec)).toArray).setRow gQ (ndc n (.slice q1 n.th.length d1) (.slice q2 n.el.length d2)).toArray = yz at *
     go_wp2
     go_meet
     case rel => exact ⟨gP, gQ, rfl, rfl, HF.out⟩
    refine AllReadyH.cons rfl (fun K hK => ?_) AllReadyH.nil
    go_simp
    have kk : Below y0.heap.size y0 (y0.alloc (.cells #[.int .i64 0, .int .i64 0, .int .u16 0, .string ⟨#[]⟩, .slice none 0 0, .slice none 0 0, .bool false, .int .i64 0, .int .i64 0] 30)) := (Below.refl _ _).alloc (Nat.le_refl _) _
    have hz : (y0.alloc (.cells #[.int .i64 0, .int .i64 0, .int .u16 0, .string ⟨#[]⟩, .slice none 0 0, .slice none 0 0, .bool false, .int .i64 0, .int .i64 0] 30)).heap[y0.heap.size]? = some (.cells #[.int .i64 0, .int .i64 0, .int .u16 0, .string ⟨#[]⟩, .slice none 0 0, .slice none 0 0, .bool false, .int .i64 0, .int .i64 0] 30 (0, 0)) := heap_alloc_new y0 _
    generalize y0.alloc (.cells #[.int .i64 0, .int .i64 0, .int .u16 0, .string ⟨#[]⟩, .slice none 0 0, .slice none 0 0, .bool false, .int .i64 0, .int .i64 0] 30) = y1 at *
    obtain ⟨gQ, hbn⟩ : ∃ bn, y0.heap.size = bn := ⟨_, rfl⟩
    have hz1 : y1.heap[gQ]? = some (.cells #[.int .i64 0, .int .i64 0, .int .u16 0, .string ⟨#[]⟩, .slice none 0 0, .slice none 0 0, .bool false, .int .i64 0, .int .i64 0] 30 (0, 0)) := by rw [<- hbn]; exact hz
    have HB1 := hid (HB0.out.trans (kk.mono HB0.out.size))
    have HZ1 := hid (And.intro hz1 (show wr.heap.size <= gQ by rw [<- hbn]; exact HB0.out.size))
    rw [hbn]
    refine hK.out _ _ (HMK.out _ HB1.out) (fun hHeld => ?_)
    clear hK K hbn hz hz1 kk
    try simp only [E.pts]
    refine wpAnyH_ready (rs := [8]) (by kernel_rfl) (by simp) ?_
    refine AllReadyH.cons rfl (fun K hK => ?_) AllReadyH.nil
    go_simp
    have kk : Below y1.heap.size y1 (y1.alloc (.cells #[.int .i64 0, .int .i64 0, .int .u16 0, .string ⟨#[]⟩, .slice none 0 0, .slice none 0 0, .bool false, .int .i64 0, .int .i64 0] 30)) := (Below.refl _ _).alloc (Nat.le_refl _) _
    have hz : (y1.alloc (.cells #[.int .i64 0, .int .i64 0, .int .u16 0, .string ⟨#[]⟩, .slice none 0 0, .slice none 0 0, .bool false, .int .i64 0, .int .i64 0] 30)).heap[y1.heap.size]? = some (.cells #[.int .i64 0, .int .i64 0, .int .u16 0, .string ⟨#[]⟩, .slice none 0 0, .slice none 0 0, .bool false, .int .i64 0, .int .i64 0] 30 (0, 0)) := heap_alloc_new y1 _
    generalize y1.alloc (.cells #[.int .i64 0, .int .i64 0, .int .u16 0, .string ⟨#[]⟩, .slice none 0 0, .slice none 0 0, .bool false, .int .i64 0, .int .i64 0] 30) = y2 at *
    obtain ⟨gP, hbn⟩ : ∃ bn, y1.heap.size = bn := ⟨_, rfl⟩
    have hz1 : y2.heap[gP]? = some (.cells #[.int .i64 0, .int .i64 0, .int .u16 0, .string ⟨#[]⟩, .slice none 0 0, .slice none 0 0, .bool false, .int .i64 0, .int .i64 0] 30 (0, 0)) := by rw [<- hbn]; exact hz
    have HB2 := hid (HB1.out.trans (kk.mono HB1.out.size))
    have HZ2 := hid (And.intro ((kk.block _ (S.lt_of HZ1.out.1)).trans HZ1.out.1) (And.intro HZ1.out.2 (And.intro hz1 (And.intro (show wr.heap.size <= gP by rw [<- hbn]; exact HB1.out.size) (show gQ ≠ gP by have := S.lt_of HZ1.out.1; omega)))))
    rw [hbn]
    refine hK.out _ _ (HMK.out _ HB2.out) (fun hHeld => ?_)
    clear hK K hbn hz hz1 kk
    try simp only [E.pts]
    have HQ := hid (BX.make (W := wr) (g := gP) (h := gQ) (cA := ndc n (.slice (some ⟨tb, 0, none⟩) n.th.length tc) (.slice (some ⟨eb, 0, none⟩) n.el.length ec)) (cB := ndc n (.slice q1 n.th.length d1) (.slice q2 n.el.length d2)) HB2.out HZ2.out.2.2.1 HZ2.out.2.2.2.1 HZ2.out.1 HZ2.out.2.1 (Ne.symm HZ2.out.2.2.2.2))
    refine wpAnyH_ready (rs := [10]) (by kernel_rfl) (by simp) ?_
    refine AllReadyH.cons rfl (fun K hK => ?_) AllReadyH.nil
    rw [if_pos (by rfl)]
    refine wp_store_row 30 _ _ rfl gP (ndc n (.slice (some ⟨tb, 0, none⟩) n.th.length tc) (.slice (some ⟨eb, 0, none⟩) n.el.length ec)).toArray (by simp [Act.eval]) (by simp [Act.eval, ndc, dfc]) 30 #[.int .i64 0, .int .i64 0, .int .u16 0, .string ⟨#[]⟩, .slice none 0 0, .slice none 0 0, .bool false, .int .i64 0, .int .i64 0] HQ.out.1 (by kernel_rfl) (by rfl) (by simp [Value.oneCell', ndc, dfc]) ?_
    refine hK.out _ _ (HMK.out _ HQ.out.2.1) (fun hHeld => ?_)
    clear hK K
    try simp only [E.pts]
    refine wpAnyH_ready (rs := [11]) (by kernel_rfl) (by simp) ?_
    refine AllReadyH.cons rfl (fun K hK => ?_) AllReadyH.nil
    rw [if_pos (by rfl)]
    refine wp_store_row 30 _ _ rfl gQ (ndc n (.slice q1 n.th.length d1) (.slice q2 n.el.length d2)).toArray (by simp [Act.eval]) (by simp [Act.eval, ndc, dfc]) 30 #[.int .i64 0, .int .i64 0, .int .u16 0, .string ⟨#[]⟩, .slice none 0 0, .slice none 0 0, .bool false, .int .i64 0, .int .i64 0] HQ.out.2.2.1 (by kernel_rfl) (by rfl) (by simp [Value.oneCell', ndc, dfc]) ?_
    refine hK.out _ _ (HMK.out _ HQ.out.2.2.2.bel) (fun hHeld => ?_)
    clear hK K
    try simp only [E.pts]
    refine wpAnyH_done (by kernel_rfl) ?_ _
    have HF := hid HQ.out.2.2.2
    clear hHeld HQ HZ2 HB2 HZ1 HB1
    generalize (y2.setRow gP (ndc n (.slice (some ⟨tb, 0, none⟩) n.th.length tc) (.slice (some ⟨eb, 0, none⟩) n.el.length ec)).toArray).setRow gQ (ndc n (.slice q1 n.th.length d1) (.slice q2 n.el.length d2)).toArray = yz at *
    go_wp2
    go_meet
    case rel => exact ⟨gP, gQ, rfl, rfl, HF.out⟩
   case rest =>
    obtain ⟨gP, gQ, rfl, rfl, hF⟩ := hcut
    obtain ⟨x0, x1, x2, x3, x4, x5, x6, x7, x8⟩ := cells9 (W := wc) (b := gP) (o := 0) fun j x hj => by rw [Nat.zero_add]; exact S.cell_of wc _ j _ 30 x hF.a hj
    obtain ⟨z0, z1, z2, z3, z4, z5, z6, z7, z8⟩ := cells9 (W := wc) (b := gQ) (o := 0) fun j x hj => by rw [Nat.zero_add]; exact S.cell_of wc _ j _ 30 x hF.b hj
    simp only [Nat.zero_add] at x1 x2 x3 x4 x5 x6 x7 x8 z1 z2 z3 z4 z5 z6 z7 z8
    have HBc := hid (HL.out.1.trans (hF.bel.mono HL.out.1.size))
    have HF := hid hF
    clear hF
    go_wp2_with fail
    refine (hm.1 _ _ O O' wc (fun i hi => Nat.lt_of_lt_of_le (HH.out.1 i hi) HBc.out.size) (fun i hi => Nat.lt_of_lt_of_le (HH.out.2.1 i hi) HBc.out.size) (HL.out.2.1.kept (fun i hi => HBc.out.block i (HH.out.1 i hi)) fun _ h => h) (HL.out.2.2.2.1.kept (fun i hi => HBc.out.block i (HH.out.2.1 i hi)) fun _ h => h)).mono ?_
    rintro e wd ⟨rfl, kd⟩
    have HBd := hid (HBc.out.trans (kd.mono HBc.out.size))
    have vP := (kd.block _ (S.lt_of HF.out.a)).trans HF.out.a
    have vQ := (kd.block _ (S.lt_of HF.out.b)).trans HF.out.b
    have y4 := S.cell_of wd gP 4 _ 30 _ vP rfl
    have y5 := S.cell_of wd gP 5 _ 30 _ vP rfl
    have u4 := S.cell_of wd gQ 4 _ 30 _ vQ rfl
    have u5 := S.cell_of wd gQ 5 _ 30 _ vQ rfl
    clear x0 x1 x2 x3 x4 x5 x6 x7 x8 z0 z1 z2 z3 z4 z5 z6 z7 z8 kd vP vQ HF
    go_wp2_with fail
    refine (hm.2 _ _ O O' wd (fun i hi => Nat.lt_of_lt_of_le (HH.out.1 i hi) HBd.out.size) (fun i hi => Nat.lt_of_lt_of_le (HH.out.2.1 i hi) HBd.out.size) (HL.out.2.2.1.kept (fun i hi => HBd.out.block i (HH.out.1 i hi)) fun _ h => h) (HL.out.2.2.2.2.kept (fun i hi => HBd.out.block i (HH.out.2.1 i hi)) fun _ h => h)).mono ?_
    rintro e we ⟨rfl, ke⟩
    have HBe := hid (HBd.out.trans (ke.mono HBd.out.size))
    clear y4 y5 u4 u5 ke
    go_wp2
    go_roundw
    case rel => exact ⟨k + 1, by omega, by go_num, HBe.out⟩
    case measure => simp [intOf]; omega
  ·have i1 : ¬ (k : Int) < l.length := by omega
   go_wp2
   go_ret
   exact ⟨rfl, hB⟩
theorem whole_all (n : Nd) : WH n.th /\ WH n.el := Nd.ind (P := fun n => WH n.th /\ WH n.el) (fun n h1 h2 => ⟨whole_of n.th h1, whole_of n.el h2⟩) n
theorem whole_nodes (l : List Nd) : WH l := whole_of l fun m _ => whole_all m
end Go.Proofs.YtlilefhmohkfkaaGreatDoor.Y
