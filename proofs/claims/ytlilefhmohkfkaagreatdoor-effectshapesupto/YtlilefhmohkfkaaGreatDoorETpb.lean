import Derived.Test.YtlilefhmohkfkaaGreatDoorEDrop
import Derived.Test.YtlilefhmohkfkaaGreatDoorEMark
namespace Go.Proofs.YtlilefhmohkfkaaGreatDoor.E
open Go.RowKit
open Go.Proofs
open Go.Proofs.YtlilefhmohkfkaaGreatDoor.Y (Nd Df Ps ndc dfc hid NV DV D1 cells6 BV)
open R (En MP lk numb chk Bk find_any checkKey_str)
set_option linter.unusedVariables false
set_option linter.unusedSimpArgs false
set_option maxHeartbeats 2000000
set_option maxRecDepth 100000
theorem look_one (W : World) (mb : Nat) (x : ByteArray) (v : Int) (L : En) (h : MP W mb L) (hn : lk L x = some v) :
  (Instr.lookup 75 (.map (some mb)) (.string x) false).run Tryz.prog W = .ok (.int .i64 v) W := by
 obtain ⟨k, hk⟩ := find_any x L 0 0
 rw [hn] at hk
 unfold MP at h
 simp [Instr.lookup, run_underlying Tryz.underlying75, getObj, Sem.run, h, checkKey_str, Instr.findKey, run_underlying Tryz.underlying9, hk]
theorem sizePos : (Tryz.prog.info? 25).map (·.size) = some 2 := by kernel_rfl
theorem tp_end {T : Array Value} {w : World} {n1 : Nat} {e p1 p2 : Int} (h2 : T.getD 2 undef = .int .i64 e) (h3 : T.getD 3 undef = .pointer (some ⟨n1, 0, none⟩)) (hb : w.heap[n1]? = some (.cells [Value.int .i64 p1, .int .i64 p2].toArray 25 (0, 0))) :
  (results Tryz.f18 T).run Tryz.prog w = .ok (.tuple #[.int .i64 e, .agg #[.int .i64 p1, .int .i64 p2]]) w := by
 have hf : Tryz.f18.results = #[.tmp 2, .cell 3 25] := rfl
 have e0 : (results Tryz.f18 T).run Tryz.prog w = ((asAddr (T.getD 3 undef)).run Tryz.prog w).andThen fun a w₁ => ((loadVar 25 a).run Tryz.prog w₁).andThen fun v w₂ => .ok (.tuple #[T.getD 2 undef, v]) w₂ := by
  simp only [results, hf]
  simp [Sem.run_bind, Result.andThen]
 rw [e0, h3, h2]
 simp [asAddr, run_loadVar_row w n1 _ 25 _ _ _ hb Tryz.underlying25 rfl sizePos]
theorem typable_any (ds : List Df) (bs : List Bk) (hd : ds.length <= 1048576) (hnm : ∀ d ∈ ds, d.nm.size <= maxLen) (hlb : bs.length <= 140737488355328) (dv bv : Value) (O : Nat -> Prop) (W : World) (hO : ∀ j, O j -> j < W.heap.size) (hD : DV W O dv ds) (hK : BV W O bv bs) :
  Calls Tryz.prog 18 #[.agg #[dv, bv]] W fun e w' => e = .returned (.tuple #[.int .i64 (typP ds bs).1, .agg #[.int .i64 (typP ds bs).2.1, .int .i64 (typP ds bs).2.2]]) /\ Below W.heap.size W w' := by
 obtain ⟨p1, c1, e1, _, _⟩ := id hD
 obtain ⟨p2, c2, e2, _⟩ := id hK
 subst e1 e2
 obtain ⟨W0, hW0⟩ : ∃ W0, W.alloc (.cells #[.slice p1 ds.length c1, .slice p2 bs.length c2] 35) = W0 := ⟨_, rfl⟩
 obtain ⟨W1, hW1⟩ : ∃ W1, W0.alloc (.cells #[.int .i64 0, .int .i64 0] 25) = W1 := ⟨_, rfl⟩
 have hs0 : W0.heap.size = W.heap.size + 1 := by rw [<- hW0]; simp
 have hB : Below W.heap.size W W1 := by rw [<- hW1, <- hW0]; exact ((Below.refl _ _).alloc (Nat.le_refl _) _).alloc (by simp) _
 have v0 : W1.heap[W.heap.size]? = some (.cells [.slice p1 ds.length c1, .slice p2 bs.length c2].toArray 35 (0, 0)) := by
  rw [<- hW1]; exact (Below.heap_alloc _ _ _ (by omega)).trans (by rw [<- hW0]; exact heap_alloc_new W _)
 have v1 : W1.heap[W0.heap.size]? = some (.cells [Value.int .i64 0, .int .i64 0].toArray 25 (0, 0)) := by rw [<- hW1]; exact heap_alloc_new W0 _
 have c0 := S.cell_of W1 _ 0 _ 35 _ v0 rfl
 have c1' := S.cell_of W1 _ 1 _ 35 _ v0 rfl
 have hc1 := R.check_any ds bs hnm hlb _ _ O W1 (fun j hj => Nat.lt_of_lt_of_le (hO j hj) hB.size) (hD.below hB hO) (hK.below hB hO)
 have HH := hid (And.intro hB (And.intro v0 (And.intro v1 (And.intro hD (And.intro hK (And.intro hO hs0))))))
 obtain ⟨R, hR⟩ : ∃ R, typP ds bs = R := ⟨_, rfl⟩
 have HR := hid hR
 rw [hR]
 clear hR hB v0 v1 hD hK hO hs0
 go_enter Tryz.func18, Tryz.ntmps18
 go_wp2_with fail
 refine hc1.mono ?_
 rintro e w1 ⟨rfl, hb1⟩
 have hB1 : Below W.heap.size W w1 := HH.out.1.trans (hb1.mono HH.out.1.size)
 have q0 := (hb1.block _ (S.lt_of HH.out.2.1)).trans HH.out.2.1
 have q1 := (hb1.block _ (S.lt_of HH.out.2.2.1)).trans HH.out.2.2.1
 clear hc1 hW0 hW1 c0 c1'
 have HV1 := hid (And.intro hB1 (And.intro q0 q1))
 clear hB1 q0 q1 hb1
 by_cases hz : chk ds bs = 0
 ·have HZ := hid hz
  rw [hz]
  obtain ⟨m, hm1, hm2, hm3⟩ := main_in hz
  have HMN := hid (And.intro hm1 (And.intro hm2 hm3))
  clear hz hm1 hm3
  have c0 := S.cell_of w1 _ 0 _ 35 _ HV1.out.2.1 rfl
  have c1 := S.cell_of w1 _ 1 _ 35 _ HV1.out.2.1 rfl
  have hcw := wordsOf_any ds hd _ (.slice p2 bs.length c2) ⟨_, _, _, rfl⟩ O w1 (fun j hj => Nat.lt_of_lt_of_le (HH.out.2.2.2.2.2.1 j hj) HV1.out.1.size) (HH.out.2.2.2.1.below HV1.out.1 HH.out.2.2.2.2.2.1)
  go_wp2_with fail
  refine hcw.mono ?_
  rintro e w2 ⟨wo, rfl, hb2, hdv⟩
  clear hcw c0 c1
  have hwl : (wordsOf ds).length <= 1048576 := Nat.le_trans (List.length_filter_le _ _) hd
  have hO2 : ∀ j, (O j \/ (w1.heap.size <= j /\ j < w2.heap.size)) -> j < w2.heap.size := fun j hj => by
   rcases hj with hj | hj
   ·exact Nat.lt_of_lt_of_le (HH.out.2.2.2.2.2.1 j hj) (Nat.le_trans HV1.out.1.size hb2.size)
   ·exact hj.2
  have hcp := placesOf_any (wordsOf ds) (words_new ds (chk_ds HZ.out)) wo _ w2 hO2 hdv
  have hB2 : Below W.heap.size W w2 := HV1.out.1.trans (hb2.mono HV1.out.1.size)
  obtain ⟨wp, wc, e3, _⟩ := id hdv
  subst e3
  have q2 := (hb2.block _ (S.lt_of HV1.out.2.2)).trans HV1.out.2.2
  have HD := hid (And.intro hdv (And.intro hO2 (And.intro hB2 (And.intro hwl q2))))
  clear hdv hO2 hB2 hwl hb2 q2
  go_wp2_with fail
  refine hcp.mono ?_
  rintro e w3 ⟨rfl, hb3, hM⟩
  clear hcp
  have hlo := look_one w3 w2.heap.size nMain (m : Int) _ hM HMN.out.1
  have hct := typed_any _ (wordsOf ds) HD.out.2.2.2.1 (words_qn ds (chk_ds HZ.out)) _ _ w2.heap.size w3 (fun j hj => Nat.lt_of_lt_of_le (HD.out.2.1 j hj) hb3.size) (HD.out.1.below hb3 HD.out.2.1) hM
  have HB3 := hid (And.intro (HD.out.2.2.1.trans (hb3.mono HD.out.2.2.1.size)) (And.intro ((hb3.block _ (S.lt_of HD.out.2.2.2.2)).trans HD.out.2.2.2.2) (And.intro hM hb3)))
  clear hb3 hM
  unfold nMain at hlo
  go_wp2_with fail
  refine hct.mono ?_
  rintro e w4 ⟨g, c, rfl, hb4, hR⟩
  have hcl := ledTo_any (atW ds) (wordsOf ds) m HMN.out.2.1 HD.out.2.2.2.1 (at_in ds) _ _ w2.heap.size w4 (fun j hj => Nat.lt_of_lt_of_le (HD.out.2.1 j hj) (Nat.le_trans HB3.out.2.2.2.size hb4.size)) ((HD.out.1.below HB3.out.2.2.2 HD.out.2.1).below hb4 (fun j hj => Nat.lt_of_lt_of_le (HD.out.2.1 j hj) HB3.out.2.2.2.size)) ((hb4.block _ HB3.out.2.2.1.lt).trans HB3.out.2.2.1)
  have HR4 := hid (And.intro hb4 (And.intro hR ((hb4.block _ (S.lt_of HB3.out.2.1)).trans HB3.out.2.1)))
  clear hct hb4 hR hlo
  go_wp2_with fail
  refine hcl.mono ?_
  rintro e w5 ⟨rfl, hL5, hb5⟩
  obtain ⟨g', c', eg, hgB, hg4, hce⟩ := own_cell HR4.out.2.1 (by omega)
  cases eg
  have hsl := shs_len ds
  have hll := ledP_len (atW ds) (wordsOf ds) m
  have q5 := (hb5.block _ (S.lt_of HR4.out.2.2)).trans HR4.out.2.2
  have hB5 : Below W.heap.size W w5 := (HB3.out.1.trans (HR4.out.1.mono HB3.out.1.size)).trans (hb5.mono (Nat.le_trans HB3.out.1.size HR4.out.1.size))
  have hz5 : W0.heap.size < w2.heap.size := S.lt_of HD.out.2.2.2.2
  have hdf : DV w5 _ (.slice wp (wordsOf ds).length wc) (wordsOf ds) := ((HD.out.1.below HB3.out.2.2.2 HD.out.2.1).below HR4.out.1 (fun j hj => Nat.lt_of_lt_of_le (HD.out.2.1 j hj) HB3.out.2.2.2.size)).below hb5 (fun j hj => Nat.lt_of_lt_of_le (HD.out.2.1 j hj) (Nat.le_trans HB3.out.2.2.2.size HR4.out.1.size))
  obtain ⟨L, hLe⟩ : ∃ L, ledP (atW ds) (wordsOf ds) m = L := ⟨_, rfl⟩
  obtain ⟨T, hTe⟩ : ∃ T, shs ds = T := ⟨_, rfl⟩
  have hRR : R = (fb L T).getD (lastOf ds m) := by
   rw [<- HR.out]
   unfold typP
   rw [if_pos HZ.out, HMN.out.2.2, hLe, hTe]
  rw [hLe] at hL5 hll
  rw [hTe] at hsl
  have hcel : ∀ (i : Nat) (t : Ty) (j : Nat) (x : Value), T[i]? = some t -> (tyc t)[j]? = some x -> w5.cell? ⟨g, i * 9 + j, none⟩ = some x := fun i t j x hi hj => by
   refine (World.cell?_of_block (w := w4) (a := ⟨g, i * 9 + j, none⟩) (hb5.block g hg4)).trans (hce _ _ ?_)
   have hj9 : j < 9 := by
    have := (List.getElem?_eq_some_iff.1 hj).1
    simpa [tyc] using this
   have : S.en tyc (shs ds) = S.en tyc T := by rw [hTe]
   show (S.en tyc (shs ds))[i * 9 + j]? = some x
   rw [this]
   exact (S.en_get (e := tyc) (s := 9) (fun a => rfl) T i j t hi hj9).trans hj
  have hne1 : g ≠ W0.heap.size := by have := HB3.out.2.2.2.size; omega
  have hne2 : w4.heap.size ≠ W0.heap.size := by have := HB3.out.2.2.2.size; have := HR4.out.1.size; omega
  have H5 := hid (And.intro hB5 (And.intro q5 (And.intro hL5 (And.intro hcel (And.intro hdf (And.intro hRR (And.intro hsl (And.intro hll (And.intro hne1 (And.intro hne2 (Nat.lt_of_lt_of_le hg4 hb5.size)))))))))))
  have hi5 : T.length = (wordsOf ds).length := hsl
  have HOO : Y.Hd (∀ j, (O j \/ (w1.heap.size <= j /\ j < w2.heap.size)) -> j < w5.heap.size) := ⟨fun j hj => Nat.lt_of_lt_of_le (HD.out.2.1 j hj) (Nat.le_trans (Nat.le_trans HB3.out.2.2.2.size HR4.out.1.size) hb5.size)⟩
  have HTe := hid hTe
  clear hcl hL5 hb5 hce hgB hg4 hLe hTe hsl hll q5 hB5 hz5 hdf hRR hcel hne1 hne2
  obtain ⟨n, hn⟩ : ∃ n, (wordsOf ds).length = n := ⟨_, rfl⟩
  have hn20 : n <= 1048576 := by rw [<- hn]; exact HD.out.2.2.2.1
  rw [hn]
  have HN := hid hn
  have Hi5 := hid hi5
  clear hn hi5 hm2
  go_wp2
  go_loopw [33] (fun ix wr => ∃ k : Nat, k <= n /\ ix = .int .i64 (k : Int) /\ Below w5.heap.size w5 wr /\ fb L T = fb (L.drop k) (T.drop k)) (fun ix _ => n - (intOf ix).toNat)
  case atStart => exact ⟨0, by omega, rfl, Below.refl _ _, rfl⟩
  case round =>
   obtain ⟨k, hk, rfl, hb, hfb⟩ := hrel
   by_cases hlt : k < n
   ·have i1 : (k : Int) < n := by omega
    have hLk : k < L.length := by have := H5.out.2.2.2.2.2.2.2.1; have := HN.out; omega
    have hTk : k < T.length := by have := Hi5.out; have := HN.out; omega
    have eL := List.getElem?_eq_getElem hLk
    have eT := List.getElem?_eq_getElem hTk
    rw [List.drop_eq_getElem_cons hLk, List.drop_eq_getElem_cons hTk, fb_cons] at hfb
    generalize L[k] = bb at *
    generalize T[k] = t at *
    have kb := hb.block g H5.out.2.2.2.2.2.2.2.2.2.2
    have cx : ∀ (j : Nat) (x : Value), (tyc t)[j]? = some x -> wr.cell? ⟨g, k * 9 + j, none⟩ = some x := fun j x hj => (World.cell?_of_block (w := w5) (a := ⟨g, k * 9 + j, none⟩) kb).trans (H5.out.2.2.2.1 k t j x eT hj)
    have d0 := cx 0 _ rfl
    have d1 := cx 1 _ rfl
    have d2 := cx 2 _ rfl
    have d3 := cx 3 _ rfl
    have d4 := cx 4 _ rfl
    have d5 := cx 5 _ rfl
    have d6 := cx 6 _ rfl
    have d7 := cx 7 _ rfl
    have d8 := cx 8 _ rfl
    rw [Nat.add_zero] at d0
    obtain ⟨y, hy⟩ : ∃ y, wr.alloc (.cells #[.string t.nm, .int .i64 t.i, .int .i64 t.o, .int .i64 t.d, .int .i64 t.r, .bool t.nv, .int .i64 t.e, .int .i64 t.p.1, .int .i64 t.p.2] 47) = y := ⟨_, rfl⟩
    have zb : Below wr.heap.size wr y := by rw [<- hy]; exact (Below.refl _ _).alloc (Nat.le_refl _) _
    have vb : y.heap[wr.heap.size]? = some (.cells (tyc t).toArray 47 (0, 0)) := by rw [<- hy]; exact heap_alloc_new wr _
    have hby : Below w5.heap.size w5 y := hb.trans (zb.mono hb.size)
    have fcl : y.cell? ⟨w4.heap.size, k, none⟩ = some (.bool bb) := (World.cell?_of_block (w := w5) (a := ⟨w4.heap.size, k, none⟩) (hby.block _ H5.out.2.2.1.lt)).trans (H5.out.2.2.1.cell k bb eL)
    have t6 := S.cell_of y _ 6 _ 47 _ vb rfl
    have t7 := S.cell_of y _ 7 _ 47 _ vb rfl
    have t8 := S.cell_of y _ 8 _ 47 _ vb rfl
    have q6 := (hby.block _ (S.lt_of H5.out.2.1)).trans H5.out.2.1
    have HY := hid (And.intro hby (And.intro hfb (And.intro q6 (And.intro hk vb))))
    clear kb cx zb vb hby hfb hb eL eT q6 hk hLk hTk
    cases bb with
    | false =>
     have HF : Y.Hd (fb L T = fb (L.drop (k + 1)) (T.drop (k + 1))) := ⟨by rw [HY.out.2.1, if_neg (fun h => by cases h.1)]⟩
     go_wp2
     go_roundw
     case rel =>
      first
       | exact ⟨k + 1, by omega, by go_num, HY.out.1, HF.out⟩
       | ((repeat apply Exists.intro); refine ⟨⟨k + 1, by omega, ?_, HY.out.1, HF.out⟩, rfl⟩; go_num)
     case measure => simp [intOf]; omega
    | true =>
     by_cases he : t.e = 0
     ·have HF : Y.Hd (fb L T = fb (L.drop (k + 1)) (T.drop (k + 1))) := ⟨by rw [HY.out.2.1, if_neg (fun h => h.2 he)]⟩
      rw [he] at t6 d6 hy
      clear he
      go_wp2
      go_roundw
      case rel =>
       first
        | exact ⟨k + 1, by omega, by go_num, HY.out.1, HF.out⟩
        | ((repeat apply Exists.intro); refine ⟨⟨k + 1, by omega, ?_, HY.out.1, HF.out⟩, rfl⟩; go_num)
      case measure => simp [intOf]; omega
     ·have hne : (t.e != 0) = true := by simpa using he
      have HF : Y.Hd (R = (t.e, t.p)) := ⟨by rw [H5.out.2.2.2.2.2.1, HY.out.2.1, if_pos ⟨rfl, he⟩]; rfl⟩
      clear he
      go_upto_region 12 with fail
      clear d0 d1 d2 d3 d4 d5 d6 d7 d8 t6 t7 t8 hy fcl
      have hS : ∀ wz, Below y.heap.size y wz -> (fun wz : World => wz.cell? ⟨wr.heap.size, 6, none⟩ = some (.int .i64 t.e) /\ wz.cell? ⟨wr.heap.size, 7, none⟩ = some (.int .i64 t.p.1) /\ wz.cell? ⟨wr.heap.size, 8, none⟩ = some (.int .i64 t.p.2)) wz := fun wz hz => by
       have hv := (hz.block _ (S.lt_of HY.out.2.2.2.2)).trans HY.out.2.2.2.2
       exact ⟨S.cell_of wz _ 6 _ 47 _ hv rfl, S.cell_of wz _ 7 _ 47 _ hv rfl, S.cell_of wz _ 8 _ 47 _ hv rfl⟩
      refine wp_region_drop [5] (S := fun wz : World => wz.cell? ⟨wr.heap.size, 6, none⟩ = some (.int .i64 t.e) /\ wz.cell? ⟨wr.heap.size, 7, none⟩ = some (.int .i64 t.p.1) /\ wz.cell? ⟨wr.heap.size, 8, none⟩ = some (.int .i64 t.p.2)) (by kernel_rfl) (hS y.drew (Below.refl _ _).drew) (fun hHeld => ?_)
      have HYd := hid (And.intro (show Below W.heap.size W y.drew from (H5.out.1.trans (HY.out.1.mono H5.out.1.size)).drew) (show y.drew.heap[W0.heap.size]? = _ from HY.out.2.2.1))
      generalize y.drew = yd at *
      clear hS
      refine E.xP 0 (v := ?_) rfl (by kernel_rfl) (fun c a w h => h) (by rfl) ?_ (fun _ => hHeld) ?_
      rotate_left
      ·(intro w hSw; clear hSw; go_simp; try with_reducible rfl)
      simp only [E.pts]
      refine E.xT 1 (v := ?_) rfl (by kernel_rfl) (fun c a w h => h) (by rfl) ?_ hHeld ?_
      rotate_left
      ·(intro w hSw; (try dsimp only at hSw); go_simp; try with_reducible rfl)
      simp only [E.pts]
      refine E.xP 2 (v := ?_) rfl (by kernel_rfl) (fun c a w h => h) (by rfl) ?_ (fun _ => hHeld) ?_
      rotate_left
      ·(intro w hSw; clear hSw; go_simp; try with_reducible rfl)
      simp only [E.pts]
      refine E.xT 3 (v := ?_) rfl (by kernel_rfl) (fun c a w h => h) (by rfl) ?_ hHeld ?_
      rotate_left
      ·(intro w hSw; (try dsimp only at hSw); go_simp; try with_reducible rfl)
      simp only [E.pts]
      refine E.xP 4 (v := ?_) rfl (by kernel_rfl) (fun c a w h => h) (by rfl) ?_ (fun _ => hHeld) ?_
      rotate_left
      ·(intro w hSw; clear hSw; go_simp; try with_reducible rfl)
      simp only [E.pts]
      have hst := HYd.out.2
      have r0 := S.cell_of yd _ 0 _ 25 _ hst rfl
      have r1 := S.cell_of yd _ 1 _ 25 _ hst rfl
      have f0 := S.frozen_of yd W0.heap.size 0 _ 25 hst
      have f1 := S.frozen_of yd W0.heap.size 1 _ 25 hst
      have hW0s : W.heap.size <= W0.heap.size := by have := HH.out.2.2.2.2.2.2; omega
      have hF2 := S.setCell_heap _ W0.heap.size 1 _ 25 (.int .i64 t.p.2) (S.setCell_heap yd W0.heap.size 0 _ 25 (.int .i64 t.p.1) hst)
      have HFin := hid (And.intro hF2 ((HYd.out.1.setCell (p := ⟨W0.heap.size, 0, none⟩) hW0s (.int .i64 t.p.1)).setCell (p := ⟨W0.heap.size, 1, none⟩) hW0s (.int .i64 t.p.2)))
      clear hF2 hst hW0s
      refine wpD_ready (rs := [5]) (by kernel_rfl) (by simp) ?_
      refine AllD.late rfl (by kernel_rfl) (fun K hK => ?_)
      go_simp
      refine hK.out _ _ ?_
      clear hK K
      try simp only [E.pts]
      refine wpD_done (by kernel_rfl) ?_ _
      clear r0 r1 f0 f1
      go_wp2
      refine bodyPost_ret (tp_end rfl rfl HFin.out.1) rfl ⟨?_, HFin.out.2⟩
      rw [HF.out]
   ·have i1 : ¬ (k : Int) < n := by omega
    have hkn : k = n := by omega
    subst hkn
    have hfn : fb L T = none := by
     rw [hfb, List.drop_eq_nil_of_le (by have := H5.out.2.2.2.2.2.2.2.1; have := HN.out; omega)]
     rfl
    have hmT : m < T.length := by have := Hi5.out; have := HMN.out.2.1; omega
    have hmW : m < (wordsOf ds).length := HMN.out.2.1
    have eT := List.getElem?_eq_getElem hmT
    have eW := List.getElem?_eq_getElem hmW
    have hR2 : R = lastOf ds m := by rw [H5.out.2.2.2.2.2.1, hfn]; rfl
    generalize hTm : T[m] = t at *
    generalize hWm : (wordsOf ds)[m] = d at *
    have hLo : lastOf ds m = if t.i ≠ 0 \/ t.o ≠ 0 then (154, d.p) else (0, (0, 0)) := by
     unfold lastOf
     rw [HTe.out, eT, eW]
    rw [hLo] at hR2
    have kb := hb.block g H5.out.2.2.2.2.2.2.2.2.2.2
    have cx : ∀ (j : Nat) (x : Value), (tyc t)[j]? = some x -> wr.cell? ⟨g, m * 9 + j, none⟩ = some x := fun j x hj => (World.cell?_of_block (w := w5) (a := ⟨g, m * 9 + j, none⟩) kb).trans (H5.out.2.2.2.1 m t j x eT hj)
    have d1 := cx 1 _ rfl
    have d2 := cx 2 _ rfl
    obtain ⟨wp', wc', ew, hwl5, hdp⟩ := H5.out.2.2.2.2.1
    cases ew
    obtain ⟨b, o, rfl, hOb, bv, hcl, hN⟩ := hdp m d eW
    have hbw : w5.heap.size <= wr.heap.size := hb.size
    have HO5 : Y.Hd (∀ j, (O j \/ (w1.heap.size <= j /\ j < w2.heap.size)) -> j < w5.heap.size) := ⟨HOO.out⟩
    obtain ⟨g0, g1, g2, g3, g4, g5⟩ := cells6 fun s x hx => (World.cell?_of_block (w := w5) (a := ⟨b, o + m * 6 + s, none⟩) (hb.block b (HO5.out b hOb))).trans (hcl s x hx)
    have HWr := hid (And.intro (H5.out.1.trans (hb.mono H5.out.1.size)) ((hb.block _ (S.lt_of H5.out.2.1)).trans H5.out.2.1))
    have im1 : (m : Int) < k := by have := HN.out; omega
    clear cx kb hdp hcl hN hwl5 hfb hfn hLo eT eW hmT hmW hb hTm hWm g0 g1 g2 g3
    by_cases hi0 : t.i = 0
    ·by_cases ho0 : t.o = 0
     ·have HF : Y.Hd (R = (0, (0, 0))) := ⟨by rw [hR2, if_neg (by rw [hi0, ho0]; simp)]⟩
      rw [hi0] at d1
      rw [ho0] at d2
      clear hR2 hi0 ho0 g4 g5
      have hst := HWr.out.2
      have r0 := S.cell_of wr _ 0 _ 25 _ hst rfl
      have r1 := S.cell_of wr _ 1 _ 25 _ hst rfl
      have f0 := S.frozen_of wr W0.heap.size 0 _ 25 hst
      have f1 := S.frozen_of wr W0.heap.size 1 _ 25 hst
      have hW0s : W.heap.size <= W0.heap.size := by have := HH.out.2.2.2.2.2.2; omega
      have hF2 := S.setCell_heap _ W0.heap.size 1 _ 25 (.int .i64 0) (S.setCell_heap wr W0.heap.size 0 _ 25 (.int .i64 0) hst)
      have HFin := hid (And.intro hF2 ((HWr.out.1.setCell (p := ⟨W0.heap.size, 0, none⟩) hW0s (.int .i64 0)).setCell (p := ⟨W0.heap.size, 1, none⟩) hW0s (.int .i64 0)))
      clear hF2 hst hW0s
      go_wp2
      refine bodyPost_ret (tp_end rfl rfl HFin.out.1) rfl ⟨?_, HFin.out.2⟩
      rw [HF.out]
     ·have hne : (t.o != 0) = true := by simpa using ho0
      have HF : Y.Hd (R = (154, d.p)) := ⟨by rw [hR2, if_pos (Or.inr ho0)]⟩
      rw [hi0] at d1
      clear hR2 hi0 ho0
      go_upto_region 15 with fail
      clear d1 d2
      have hS : ∀ wz, Below wr.heap.size wr wz -> (fun wz : World => wz.cell? ⟨b, o + m * 6 + 4, none⟩ = some (.int .i64 d.p.1) /\ wz.cell? ⟨b, o + m * 6 + 5, none⟩ = some (.int .i64 d.p.2)) wz := fun wz hz => by
       have hv := hz.block b (Nat.lt_of_lt_of_le (HO5.out b hOb) hbw)
       exact ⟨(World.cell?_of_block (w := wr) (a := ⟨b, o + m * 6 + 4, none⟩) hv).trans g4, (World.cell?_of_block (w := wr) (a := ⟨b, o + m * 6 + 5, none⟩) hv).trans g5⟩
      refine wp_region_drop [6] (S := fun wz : World => wz.cell? ⟨b, o + m * 6 + 4, none⟩ = some (.int .i64 d.p.1) /\ wz.cell? ⟨b, o + m * 6 + 5, none⟩ = some (.int .i64 d.p.2)) (by kernel_rfl) (hS wr.drew (Below.refl _ _).drew) (fun hHeld => ?_)
      have HYd := hid (And.intro (show Below W.heap.size W wr.drew from HWr.out.1.drew) (show wr.drew.heap[W0.heap.size]? = _ from HWr.out.2))
      generalize wr.drew = yd at *
      clear hS g4 g5
      refine E.zP (is := [0, 1, 2, 3]) ?_
      iterate 4
       refine E.yP (v := ?_) rfl (by kernel_rfl) (fun c a w h => h) (by rfl) ?_ (fun _ => hHeld) ?_
       rotate_left
       ·(intro w hSw; clear hSw; go_simp; try with_reducible rfl)
       simp only [E.pts]
      refine E.eP ?_
      refine E.xT 4 (v := ?_) rfl (by kernel_rfl) (fun c a w h => h) (by rfl) ?_ hHeld ?_
      rotate_left
      ·(intro w hSw; (try dsimp only at hSw); go_simp; try with_reducible rfl)
      simp only [E.pts]
      refine E.xP 5 (v := ?_) rfl (by kernel_rfl) (fun c a w h => h) (by rfl) ?_ (fun _ => hHeld) ?_
      rotate_left
      ·(intro w hSw; clear hSw; go_simp; try with_reducible rfl)
      simp only [E.pts]
      have hst := HYd.out.2
      have r0 := S.cell_of yd _ 0 _ 25 _ hst rfl
      have r1 := S.cell_of yd _ 1 _ 25 _ hst rfl
      have f0 := S.frozen_of yd W0.heap.size 0 _ 25 hst
      have f1 := S.frozen_of yd W0.heap.size 1 _ 25 hst
      have hW0s : W.heap.size <= W0.heap.size := by have := HH.out.2.2.2.2.2.2; omega
      have hF2 := S.setCell_heap _ W0.heap.size 1 _ 25 (.int .i64 d.p.2) (S.setCell_heap yd W0.heap.size 0 _ 25 (.int .i64 d.p.1) hst)
      have HFin := hid (And.intro hF2 ((HYd.out.1.setCell (p := ⟨W0.heap.size, 0, none⟩) hW0s (.int .i64 d.p.1)).setCell (p := ⟨W0.heap.size, 1, none⟩) hW0s (.int .i64 d.p.2)))
      clear hF2 hst hW0s
      refine wpD_ready (rs := [6]) (by kernel_rfl) (by simp) ?_
      refine AllD.late rfl (by kernel_rfl) (fun K hK => ?_)
      go_simp
      refine hK.out _ _ ?_
      clear hK K
      try simp only [E.pts]
      refine wpD_done (by kernel_rfl) ?_ _
      clear r0 r1 f0 f1
      go_wp2
      refine bodyPost_ret (tp_end rfl rfl HFin.out.1) rfl ⟨?_, HFin.out.2⟩
      rw [HF.out]
    ·have hne : (t.i != 0) = true := by simpa using hi0
     have HF : Y.Hd (R = (154, d.p)) := ⟨by rw [hR2, if_pos (Or.inl hi0)]⟩
     clear hR2 hi0
     go_upto_region 15 with fail
     clear d1 d2
     have hS : ∀ wz, Below wr.heap.size wr wz -> (fun wz : World => wz.cell? ⟨b, o + m * 6 + 4, none⟩ = some (.int .i64 d.p.1) /\ wz.cell? ⟨b, o + m * 6 + 5, none⟩ = some (.int .i64 d.p.2)) wz := fun wz hz => by
      have hv := hz.block b (Nat.lt_of_lt_of_le (HO5.out b hOb) hbw)
      exact ⟨(World.cell?_of_block (w := wr) (a := ⟨b, o + m * 6 + 4, none⟩) hv).trans g4, (World.cell?_of_block (w := wr) (a := ⟨b, o + m * 6 + 5, none⟩) hv).trans g5⟩
     refine wp_region_drop [6] (S := fun wz : World => wz.cell? ⟨b, o + m * 6 + 4, none⟩ = some (.int .i64 d.p.1) /\ wz.cell? ⟨b, o + m * 6 + 5, none⟩ = some (.int .i64 d.p.2)) (by kernel_rfl) (hS wr.drew (Below.refl _ _).drew) (fun hHeld => ?_)
     have HYd := hid (And.intro (show Below W.heap.size W wr.drew from HWr.out.1.drew) (show wr.drew.heap[W0.heap.size]? = _ from HWr.out.2))
     generalize wr.drew = yd at *
     clear hS g4 g5
     refine E.zP (is := [0, 1, 2, 3]) ?_
     iterate 4
      refine E.yP (v := ?_) rfl (by kernel_rfl) (fun c a w h => h) (by rfl) ?_ (fun _ => hHeld) ?_
      rotate_left
      ·(intro w hSw; clear hSw; go_simp; try with_reducible rfl)
      simp only [E.pts]
     refine E.eP ?_
     refine E.xT 4 (v := ?_) rfl (by kernel_rfl) (fun c a w h => h) (by rfl) ?_ hHeld ?_
     rotate_left
     ·(intro w hSw; (try dsimp only at hSw); go_simp; try with_reducible rfl)
     simp only [E.pts]
     refine E.xP 5 (v := ?_) rfl (by kernel_rfl) (fun c a w h => h) (by rfl) ?_ (fun _ => hHeld) ?_
     rotate_left
     ·(intro w hSw; clear hSw; go_simp; try with_reducible rfl)
     simp only [E.pts]
     have hst := HYd.out.2
     have r0 := S.cell_of yd _ 0 _ 25 _ hst rfl
     have r1 := S.cell_of yd _ 1 _ 25 _ hst rfl
     have f0 := S.frozen_of yd W0.heap.size 0 _ 25 hst
     have f1 := S.frozen_of yd W0.heap.size 1 _ 25 hst
     have hW0s : W.heap.size <= W0.heap.size := by have := HH.out.2.2.2.2.2.2; omega
     have hF2 := S.setCell_heap _ W0.heap.size 1 _ 25 (.int .i64 d.p.2) (S.setCell_heap yd W0.heap.size 0 _ 25 (.int .i64 d.p.1) hst)
     have HFin := hid (And.intro hF2 ((HYd.out.1.setCell (p := ⟨W0.heap.size, 0, none⟩) hW0s (.int .i64 d.p.1)).setCell (p := ⟨W0.heap.size, 1, none⟩) hW0s (.int .i64 d.p.2)))
     clear hF2 hst hW0s
     refine wpD_ready (rs := [6]) (by kernel_rfl) (by simp) ?_
     refine AllD.late rfl (by kernel_rfl) (fun K hK => ?_)
     go_simp
     refine hK.out _ _ ?_
     clear hK K
     try simp only [E.pts]
     refine wpD_done (by kernel_rfl) ?_ _
     clear r0 r1 f0 f1
     go_wp2
     refine bodyPost_ret (tp_end rfl rfl HFin.out.1) rfl ⟨?_, HFin.out.2⟩
     rw [HF.out]
 ·have hne : (chk ds bs != 0) = true := by simpa using hz
  have HZ := hid hz
  clear hz
  have hst := HV1.out.2.2
  have r0 := S.cell_of w1 _ 0 _ 25 _ hst rfl
  have r1 := S.cell_of w1 _ 1 _ 25 _ hst rfl
  have f0 := S.frozen_of w1 W0.heap.size 0 _ 25 hst
  have f1 := S.frozen_of w1 W0.heap.size 1 _ 25 hst
  have hW0s : W.heap.size <= W0.heap.size := by have := HH.out.2.2.2.2.2.2; omega
  have hF2 := S.setCell_heap _ W0.heap.size 1 _ 25 (.int .i64 0) (S.setCell_heap w1 W0.heap.size 0 _ 25 (.int .i64 0) hst)
  have HFin := hid (And.intro hF2 ((HV1.out.1.setCell (p := ⟨W0.heap.size, 0, none⟩) hW0s (.int .i64 0)).setCell (p := ⟨W0.heap.size, 1, none⟩) hW0s (.int .i64 0)))
  have HF : Y.Hd (R = (chk ds bs, (0, 0))) := ⟨by rw [<- HR.out]; unfold typP; rw [if_neg HZ.out]⟩
  clear hF2 hst hW0s
  go_wp2
  refine bodyPost_ret (tp_end rfl rfl HFin.out.1) rfl ⟨?_, HFin.out.2⟩
  rw [HF.out]
open Go.Proofs.YtlilefhmohkfkaaGreatDoor.Y (Nd Df Ps ndc dfc hid NV DV D1 cells6 cells9 BV N1)
open R (chk cks ck own1 Bk lk numb)
set_option linter.unusedVariables false
set_option linter.unusedSimpArgs false
set_option maxHeartbeats 2000000
set_option maxRecDepth 100000
def lfc (n : Nd) : List Value := ndc n (.slice none 0 0) (.slice none 0 0)
theorem nv_leaf {W : World} {O : Nat -> Prop} {b c : Nat} {t : TypeId} {l : List Nd} (h : W.heap[b]? = some (.cells (S.en lfc l).toArray t (0, 0))) (hO : O b) (hl : l.length <= 140737488355328) (hh : ∀ n ∈ l, n.th = [] /\ n.el = []) : NV W O (.slice (some ⟨b, 0, none⟩) l.length c) l := by
 refine NV.row hO hl fun i n hi => ?_
 obtain ⟨h1, h2⟩ := hh n (List.mem_of_getElem? hi)
 refine N1.mk (.slice none 0 0) (.slice none 0 0) (fun j x hx => ?_) (by rw [h1]; exact NV.nil (.inl rfl)) (by rw [h2]; exact NV.nil (.inl rfl))
 have hj : j < 9 := (List.getElem?_eq_some_iff.1 hx).1
 rw [Nat.zero_add]
 exact S.cell_of W b (i * 9 + j) _ t _ h ((S.en_get (e := lfc) (s := 9) (fun a => rfl) l i j n hi hj).trans hx)
def drc (x : Df × Value) : List Value := dfc x.1 x.2
theorem dv_lit {W : World} {O : Nat -> Prop} {b c : Nat} {t : TypeId} {L : List (Df × Value)} (h : W.heap[b]? = some (.cells (S.en drc L).toArray t (0, 0))) (hO : O b) (hl : L.length <= 140737488355328) (hb : ∀ x ∈ L, NV W O x.2 x.1.body) : DV W O (.slice (some ⟨b, 0, none⟩) L.length c) (L.map (·.1)) := by
 refine ⟨_, c, by rw [List.length_map], by rw [List.length_map]; exact hl, fun i d hi => ?_⟩
 rw [List.getElem?_map] at hi
 cases hx : L[i]? with
 | none => rw [hx] at hi; cases hi
 | some x =>
  rw [hx] at hi
  cases hi
  refine ⟨b, 0, rfl, hO, x.2, fun j u hu => ?_, hb x (List.mem_of_getElem? hx)⟩
  have hj : j < 6 := (List.getElem?_eq_some_iff.1 hu).1
  rw [Nat.zero_add]
  exact S.cell_of W b (i * 6 + j) _ t _ h ((S.en_get (e := drc) (s := 6) (fun a => rfl) L i j x hx hj).trans hu)
theorem bv_nil (W : World) (O : Nat -> Prop) : BV W O (.slice none 0 0) [] := ⟨none, 0, rfl, fun i d h => by simp at h⟩
theorem so_yes {W w' : World} {ds : List Df} {bs : List Bk} {e : Ending} (hz : chk ds bs = 0) (h : SO W ds bs e w') : Below W.heap.size W w' /\ ∃ g c, e = .returned (.tuple #[.slice (some ⟨g, 0, none⟩) (wordsOf ds).length c, .int .i64 0]) /\ w'.ownsRow W.heap.size 47 9 (.slice (some ⟨g, 0, none⟩) (wordsOf ds).length c) (wordsOf ds).length (S.en tyc (shs ds)) := by
 refine ⟨h.1, ?_⟩
 have := h.2
 rw [if_pos hz] at this
 exact this
theorem body_leaf (kn : ByteArray -> Option Ty) : ∀ (l : List Nd), (∀ n ∈ l, n.th = [] /\ n.el = []) -> body kn l = run (l.map fun n => nodeB kn n.k n.op n.nm n.p (run []) (run []))
 | l, h => by
  unfold body
  rw [List.map_congr_left fun n hn => ?_]
  obtain ⟨h1, h2⟩ := h n hn
  rw [node_is, h1, h2]
  rfl
theorem ck_leaf (names : List ByteArray) (n : Nd) (h : n.th = [] /\ n.el = []) (i : Nat × Bool) : ck names n i = own1 names n i := by
 rw [R.ck_is, h.1, h.2]
 by_cases e : own1 names n i = 0
 ·rw [if_pos e, if_pos (R.cks_nil _ _), e]; rfl
 ·rw [if_neg e]
theorem cks_leaf (names : List ByteArray) : ∀ (l : List Nd), (∀ n ∈ l, n.th = [] /\ n.el = []) -> ∀ i, cks names l i = R.fe (l.map (own1 names)) i
 | [], _, i => rfl
 | n :: r, h, i => by
  rw [R.cks_cons, List.map_cons, R.fe, ck_leaf names n (h n (by simp)), cks_leaf names r (fun m hm => h m (by simp [hm]))]
def nsq : ByteArray := ⟨#[115, 113]⟩
def pnd (op : Int) : Nd := ⟨1, op, 0, ⟨#[]⟩, [], [], false, (0, 0)⟩
def lnd (x : Int) : Nd := ⟨2, 0, x, ⟨#[]⟩, [], [], false, (0, 0)⟩
def sqB : List Nd := [pnd 12, pnd 23]
def mnB : List Nd := [lnd 5, cnd nsq, pnd 13]
def ds2 : List Df := [wd nsq sqB, wd nmain mnB]
theorem sq_leaf : ∀ n ∈ sqB, n.th = [] /\ n.el = [] := by intro n hn; simp [sqB, pnd] at hn; rcases hn with rfl | rfl <;> exact ⟨rfl, rfl⟩
theorem mn_leaf : ∀ n ∈ mnB, n.th = [] /\ n.el = [] := by intro n hn; simp [mnB, pnd, lnd, cnd] at hn; rcases hn with rfl | rfl | rfl <;> exact ⟨rfl, rfl⟩
theorem chk2 : chk ds2 [] = 0 := by
 have h1 : R.dfE [] (wd nsq sqB) = 0 := by
  unfold R.dfE
  show (if _ then _ else if _ then _ else if _ then _ else if _ then _ else cks [] sqB (0, false)) = 0
  rw [cks_leaf [] sqB sq_leaf]
  kernel_rfl
 have h2 : R.dfE [nsq] (wd nmain mnB) = 0 := by
  unfold R.dfE
  show (if _ then _ else if _ then _ else if _ then _ else if _ then _ else cks [nsq] mnB (0, false)) = 0
  rw [cks_leaf [nsq] mnB mn_leaf]
  kernel_rfl
 have h3 : R.dsE [] ds2 = 0 := by
  unfold ds2
  rw [R.dsE, if_pos h1, R.dsE]
  show (if R.dfE [nsq] (wd nmain mnB) = 0 then _ else _) = 0
  rw [if_pos h2]
  rfl
 unfold chk
 rw [if_pos h3, if_pos (show R.bkE (-1) [] = 0 from rfl), if_pos (show ds2.any R.isMain = true by kernel_rfl)]
def tsq : Ty := ⟨nsq, 1, 1, 1, 0, false, 0, (0, 0)⟩
def tmn : Ty := ⟨nmain, 0, 0, 2, 1, false, 0, (0, 0)⟩
theorem shs2 : shs ds2 = [tsq, tmn] := by
 have h1 : tyOf (known (numb ((wordsOf ds2).map (·.nm)) 0) []) (wd nsq sqB) = tsq := by
  unfold tyOf word
  rw [show (wd nsq sqB).body = sqB from rfl, body_leaf _ sqB sq_leaf]
  kernel_rfl
 have h2 : tyOf (known (numb ((wordsOf ds2).map (·.nm)) 0) [tsq]) (wd nmain mnB) = tmn := by
  unfold tyOf word
  rw [show (wd nmain mnB).body = mnB from rfl, body_leaf _ mnB mn_leaf]
  kernel_rfl
 have hw : wordsOf ds2 = [wd nsq sqB, wd nmain mnB] := rfl
 unfold shs
 rw [hw] at h1 h2 ⊢
 rw [tysP, List.nil_append, h1, tysP, List.cons_append, List.nil_append, h2, tysP]
theorem fb_none : ∀ (bs : List Bool) (ts : List Ty), (∀ t ∈ ts, t.e = 0) -> fb bs ts = none
 | [], _, _ => rfl
 | _ :: _, [], _ => rfl
 | b :: bs, t :: ts, h => by
  rw [fb_cons, if_neg (fun hh => hh.2 (h t (by simp)))]
  exact fb_none bs ts fun u hu => h u (by simp [hu])
theorem typ2 : typP ds2 [] = (0, (0, 0)) := by
 unfold typP
 rw [if_pos chk2, shs2, fb_none _ [tsq, tmn] (by intro t ht; simp at ht; rcases ht with rfl | rfl <;> rfl)]
 have hm : mainAt ds2 = 1 := by kernel_rfl
 rw [hm]
 unfold lastOf
 rw [shs2]
 rfl
open R (chk Bk)
set_option linter.unusedVariables false
set_option linter.unusedSimpArgs false
set_option maxHeartbeats 2000000
set_option maxRecDepth 100000
theorem known_any (W : World) : Calls Tryz.prog 11 #[] W fun e w' => e = .returned (.bool true) /\ Below W.heap.size W w' := by
 go_enter Tryz.func11, Tryz.ntmps11
 go_wp2_with fail
 refine (prim_law 12 W).mono ?_
 rintro e w1 ⟨rfl, k1⟩
 go_wp2_with fail
 refine (prim_law 23 w1).mono ?_
 rintro e w2 ⟨rfl, k2⟩
 have K2 := hid (k1.trans (k2.mono k1.size))
 clear k1 k2
 obtain ⟨w3, hw3⟩ : ∃ w3, w2.alloc (.cells #[.int .i64 1, .int .i64 12, .int .u16 0, .string ⟨#[]⟩, .slice none 0 0, .slice none 0 0, .bool false, .int .i64 0, .int .i64 0, .int .i64 1, .int .i64 23, .int .u16 0, .string ⟨#[]⟩, .slice none 0 0, .slice none 0 0, .bool false, .int .i64 0, .int .i64 0] 30) = w3 := ⟨_, rfl⟩
 have h3 : w3.heap[w2.heap.size]? = some (.cells (S.en lfc sqB).toArray 30 (0, 0)) := by rw [<- hw3]; exact heap_alloc_new w2 _
 have k3 : Below w2.heap.size w2 w3 := by rw [<- hw3]; exact (Below.refl _ _).alloc (Nat.le_refl _) _
 have H3 := hid (And.intro h3 (K2.out.trans (k3.mono K2.out.size)))
 clear h3 k3 K2
 go_wp2_with fail
 refine (word_law _ _ _ _ w3).mono ?_
 rintro e w4 ⟨rfl, k4⟩
 clear hw3
 go_wp2_with fail
 refine (lit_law 5 w4).mono ?_
 rintro e w5 ⟨rfl, k5⟩
 go_wp2_with fail
 refine (call_law _ w5).mono ?_
 rintro e w6 ⟨rfl, k6⟩
 go_wp2_with fail
 refine (prim_law 13 w6).mono ?_
 rintro e w7 ⟨rfl, k7⟩
 have K7 := hid (((k4.trans (k5.mono k4.size)).trans (k6.mono (Nat.le_trans k4.size k5.size))).trans (k7.mono (Nat.le_trans (Nat.le_trans k4.size k5.size) k6.size)))
 clear k4 k5 k6 k7
 obtain ⟨w8, hw8⟩ : ∃ w8, w7.alloc (.cells #[.int .i64 2, .int .i64 0, .int .u16 5, .string ⟨#[]⟩, .slice none 0 0, .slice none 0 0, .bool false, .int .i64 0, .int .i64 0, .int .i64 3, .int .i64 0, .int .u16 0, .string ⟨#[115, 113]⟩, .slice none 0 0, .slice none 0 0, .bool false, .int .i64 0, .int .i64 0, .int .i64 1, .int .i64 13, .int .u16 0, .string ⟨#[]⟩, .slice none 0 0, .slice none 0 0, .bool false, .int .i64 0, .int .i64 0] 30) = w8 := ⟨_, rfl⟩
 have h8 : w8.heap[w7.heap.size]? = some (.cells (S.en lfc mnB).toArray 30 (0, 0)) := by rw [<- hw8]; exact heap_alloc_new w7 _
 have k8 : Below w7.heap.size w7 w8 := by rw [<- hw8]; exact (Below.refl _ _).alloc (Nat.le_refl _) _
 have H8 := hid (And.intro h8 (And.intro ((K7.out.trans (k8.mono K7.out.size)).block _ (S.lt_of H3.out.1)) (H3.out.2.trans ((K7.out.trans (k8.mono K7.out.size)).mono H3.out.2.size))))
 clear h8 k8 K7
 go_wp2_with fail
 refine (word_law _ _ _ _ w8).mono ?_
 rintro e w9 ⟨rfl, k9⟩
 have K9 := hid k9
 clear hw8 k9
 obtain ⟨w10, hw10⟩ : ∃ w10, w9.alloc (.cells #[.int .i64 1, .string ⟨#[115, 113]⟩, .int .u16 0, .slice (some ⟨w2.heap.size, 0, none⟩) 2 2, .int .i64 0, .int .i64 0, .int .i64 1, .string ⟨#[109, 97, 105, 110]⟩, .int .u16 0, .slice (some ⟨w7.heap.size, 0, none⟩) 3 3, .int .i64 0, .int .i64 0] 27) = w10 := ⟨_, rfl⟩
 have h10 : w10.heap[w9.heap.size]? = some (.cells (S.en drc [(wd nsq sqB, .slice (some ⟨w2.heap.size, 0, none⟩) 2 2), (wd nmain mnB, .slice (some ⟨w7.heap.size, 0, none⟩) 3 3)]).toArray 27 (0, 0)) := by rw [<- hw10]; exact heap_alloc_new w9 _
 have k10 : Below w9.heap.size w9 w10 := by rw [<- hw10]; exact (Below.refl _ _).alloc (Nat.le_refl _) _
 go_upto_region 2 with fail
 clear hw10
 obtain ⟨w11, hw11⟩ : ∃ w11, w10.alloc (.cells #[.slice (some ⟨w9.heap.size, 0, none⟩) 2 2, .slice none 0 0] 35) = w11 := ⟨_, rfl⟩
 rw [hw11]
 have h11 : w11.heap[w10.heap.size]? = some (.cells [Value.slice (some ⟨w9.heap.size, 0, none⟩) 2 2, .slice none 0 0].toArray 35 (0, 0)) := by rw [<- hw11]; exact heap_alloc_new w10 _
 have k11 : Below w10.heap.size w10 w11 := by rw [<- hw11]; exact (Below.refl _ _).alloc (Nat.le_refl _) _
 have kk : Below w8.heap.size w8 w11 := (K9.out.trans (k10.mono K9.out.size)).trans (k11.mono (Nat.le_trans K9.out.size k10.size))
 have e2 := (kk.block _ (S.lt_of (H8.out.2.1.trans H3.out.1))).trans (H8.out.2.1.trans H3.out.1)
 have e7 := (kk.block _ (S.lt_of H8.out.1)).trans H8.out.1
 have e9 := (k11.block _ (S.lt_of h10)).trans h10
 have hB11 : Below W.heap.size W w11 := H8.out.2.2.trans (kk.mono H8.out.2.2.size)
 have hDV : DV w11 (fun j => j < w11.heap.size) (.slice (some ⟨w9.heap.size, 0, none⟩) 2 2) ds2 := dv_lit (c := 2) e9 (S.lt_of e9) (by simp) (by
  intro x hx
  simp only [List.mem_cons, List.not_mem_nil, or_false] at hx
  rcases hx with rfl | rfl
  ·exact nv_leaf (l := sqB) e2 (S.lt_of e2) (by decide) sq_leaf
  ·exact nv_leaf (l := mnB) e7 (S.lt_of e7) (by decide) mn_leaf)
 have hnm : ∀ d ∈ ds2, d.nm.size <= maxLen := by
  intro d hd
  simp [ds2, wd] at hd
  rcases hd with rfl | rfl <;> decide
 have hcs := shapes_any ds2 [] (by decide) hnm (by decide) _ _ _ w11 (fun _ h => h) hDV (bv_nil _ _)
 have c0 := S.cell_of w11 _ 0 _ 35 _ h11 rfl
 have c1 := S.cell_of w11 _ 1 _ 35 _ h11 rfl
 have HK := hid (And.intro hB11 (And.intro hDV (And.intro hnm h11)))
 clear hB11 hDV hnm h11 e2 e7 e9 kk k11 k10 h10 H8 H3 K9
 go_wp2_with fail
 refine hcs.mono ?_
 intro e w12 hso
 obtain ⟨k12, g, c, rfl, hown⟩ := so_yes chk2 hso
 rw [shs2] at hown
 have hown2 : w12.ownsRow w11.heap.size 47 9 (.slice (some ⟨g, 0, none⟩) 2 c) 2 (S.en tyc [tsq, tmn]) := hown
 have p12 := (k12.block _ (S.lt_of HK.out.2.2.2)).trans HK.out.2.2.2
 clear hcs hw11 c0 c1 hown
 have c0 := S.cell_of w12 _ 0 _ 35 _ p12 rfl
 have c1 := S.cell_of w12 _ 1 _ 35 _ p12 rfl
 have hct := typable_any ds2 [] (by decide) HK.out.2.2.1 (by decide) _ _ _ w12 (fun j hj => Nat.lt_of_lt_of_le hj k12.size) (HK.out.2.1.below k12 (fun _ h => h)) (bv_nil _ _)
 rw [typ2] at hct
 obtain ⟨g', c', eg, _, hg, hce⟩ := own_cell hown2 (by decide)
 cases eg
 have H12 := hid (And.intro k12 (And.intro hg hce))
 clear p12 k12 hown2 hg hce
 go_wp2_with fail
 refine hct.mono ?_
 rintro e w13 ⟨rfl, k13⟩
 have hct' := trivial
 go_upto_region 4 with fail
 obtain ⟨w14, hw14⟩ : ∃ w14, w13.alloc (.cells #[.int .i64 0, .int .i64 0] 25) = w14 := ⟨_, rfl⟩
 rw [hw14]
 have v14 : w14.heap[w13.heap.size]? = some (.cells [Value.int .i64 0, .int .i64 0].toArray 25 (0, 0)) := by rw [<- hw14]; exact heap_alloc_new w13 _
 have k14 : Below w13.heap.size w13 w14 := by rw [<- hw14]; exact (Below.refl _ _).alloc (Nat.le_refl _) _
 have kk : Below w12.heap.size w12 w14 := k13.trans (k14.mono k13.size)
 have hkb := kk.block _ H12.out.2.1
 have x1 : w14.cell? ⟨g, 1, none⟩ = some (.int .i64 1) := (World.cell?_of_block (w := w12) (a := ⟨g, 1, none⟩) hkb).trans (H12.out.2.2 1 _ rfl)
 have x2 : w14.cell? ⟨g, 2, none⟩ = some (.int .i64 1) := (World.cell?_of_block (w := w12) (a := ⟨g, 2, none⟩) hkb).trans (H12.out.2.2 2 _ rfl)
 have x3 : w14.cell? ⟨g, 3, none⟩ = some (.int .i64 1) := (World.cell?_of_block (w := w12) (a := ⟨g, 3, none⟩) hkb).trans (H12.out.2.2 3 _ rfl)
 have x4 : w14.cell? ⟨g, 4, none⟩ = some (.int .i64 0) := (World.cell?_of_block (w := w12) (a := ⟨g, 4, none⟩) hkb).trans (H12.out.2.2 4 _ rfl)
 have x5 : w14.cell? ⟨g, 5, none⟩ = some (.bool false) := (World.cell?_of_block (w := w12) (a := ⟨g, 5, none⟩) hkb).trans (H12.out.2.2 5 _ rfl)
 have x10 : w14.cell? ⟨g, 10, none⟩ = some (.int .i64 0) := (World.cell?_of_block (w := w12) (a := ⟨g, 10, none⟩) hkb).trans (H12.out.2.2 10 _ rfl)
 have x11 : w14.cell? ⟨g, 11, none⟩ = some (.int .i64 0) := (World.cell?_of_block (w := w12) (a := ⟨g, 11, none⟩) hkb).trans (H12.out.2.2 11 _ rfl)
 have x12 : w14.cell? ⟨g, 12, none⟩ = some (.int .i64 2) := (World.cell?_of_block (w := w12) (a := ⟨g, 12, none⟩) hkb).trans (H12.out.2.2 12 _ rfl)
 have x13 : w14.cell? ⟨g, 13, none⟩ = some (.int .i64 1) := (World.cell?_of_block (w := w12) (a := ⟨g, 13, none⟩) hkb).trans (H12.out.2.2 13 _ rfl)
 have x14 : w14.cell? ⟨g, 14, none⟩ = some (.bool false) := (World.cell?_of_block (w := w12) (a := ⟨g, 14, none⟩) hkb).trans (H12.out.2.2 14 _ rfl)
 have p0 := S.cell_of w14 _ 0 _ 25 _ v14 rfl
 have p1 := S.cell_of w14 _ 1 _ 25 _ v14 rfl
 have HB := hid (HK.out.1.trans ((H12.out.1.trans (kk.mono H12.out.1.size)).mono HK.out.1.size))
 have q1 := fun W => eql_pos W 0 0
 have q2 := fun W => eql_sh W 1 1 1 0 false
 have q3 := fun W => eql_sh W 0 0 2 1 false
 clear hct c0 c1 v14 k14 kk hkb k13
 go_wp2_with fail
 refine (num_any 0 w14).mono ?_
 rintro e w15 ⟨rfl, hw15⟩
 obtain rfl := hw15.symm
 clear hw15
 go_wp2_with fail
 refine (num_any 0 _).mono ?_
 rintro e w16 ⟨rfl, hw16⟩
 obtain rfl := hw16.symm
 clear hw16
 go_wp2
 go_ret
 exact ⟨rfl, HB.out⟩
end Go.Proofs.YtlilefhmohkfkaaGreatDoor.E
