import Derived.Test.YtlilefhmohkfkaaGreatDoorERfX
import Derived.Test.YtlilefhmohkfkaaGreatDoorEMark
namespace Go.Proofs.YtlilefhmohkfkaaGreatDoor.E
open Go.RowKit
open Go.Proofs
open Go.Proofs.YtlilefhmohkfkaaGreatDoor.Y (Nd Df Ps ndc dfc hid NV DV D1 BV cells9 cells6 nl nl_th nl_el nl_len)
open R (En lk numb chk Bk dsE dfE ck cks cks_cons)
set_option linter.unusedVariables false
set_option linter.unusedSimpArgs false
set_option maxHeartbeats 2000000
set_option maxRecDepth 100000
theorem own_one (W : World) (s : ByteArray) : (W.alloc (.cells #[.string s] 9)).ownsRow W.heap.size 9 1 (.slice (some ⟨W.heap.size, 0, none⟩) 1 1) [s].length (S.en eS [s]) :=
 ⟨by simp [S.en, eS], .inr ⟨W.heap.size, 1, #[.string s], rfl, Nat.le_refl _, heap_alloc_new W _, Nat.le_refl _, by decide, by simp, by simp [S.en, eS]⟩⟩
theorem led_r (ds : List Df) (bs : List Bk) (hd : ds.length <= 1048576) (hnl : ∀ d ∈ ds, nl d.body <= 1048576) (dv bv : Value) (O : Nat -> Prop) (W : World) (hO : ∀ j, O j -> j < W.heap.size) (hD : DV W O dv ds) (hK : BV W O bv bs) :
  Calls Tryz.prog 36 #[.agg #[dv, bv]] W fun e w' => ∃ p c, e = .returned (.slice p (ledR ds).length c) /\ w'.ownsRow W.heap.size 9 1 (.slice p (ledR ds).length c) (ledR ds).length (S.en eS (ledR ds)) /\ Below W.heap.size W w' /\ (ledR ds).length <= 140737488355328 := by
 obtain ⟨p1, c1, e1, hl1, hp⟩ := id hD
 obtain ⟨p2, c2, e2, _⟩ := id hK
 subst e1 e2
 obtain ⟨W0, hW0⟩ : ∃ W0, W.alloc (.cells #[.slice p1 ds.length c1, .slice p2 bs.length c2] 35) = W0 := ⟨_, rfl⟩
 have hB : Below W.heap.size W W0 := by rw [<- hW0]; exact (Below.refl _ _).alloc (Nat.le_refl _) _
 have v0 : W0.heap[W.heap.size]? = some (.cells [.slice p1 ds.length c1, .slice p2 bs.length c2].toArray 35 (0, 0)) := by rw [<- hW0]; exact heap_alloc_new W _
 have hs0 : W0.heap.size = W.heap.size + 1 := by rw [<- hW0]; simp
 obtain ⟨W1, hW1⟩ : ∃ W1, W0.alloc (.cells #[.string ⟨#[109, 97, 105, 110]⟩] 9) = W1 := ⟨_, rfl⟩
 have hB1 : Below W0.heap.size W0 W1 := by rw [<- hW1]; exact (Below.refl _ _).alloc (Nat.le_refl _) _
 have o1 : W1.ownsRow W0.heap.size 9 1 (.slice (some ⟨W0.heap.size, 0, none⟩) 1 1) [nMain].length (S.en eS [nMain]) := by rw [<- hW1]; exact own_one W0 nMain
 have v1 := (hB1.block _ (S.lt_of v0)).trans v0
 have x0 := S.cell_of W1 _ 0 _ 35 _ v1 rfl
 have HI := hid (And.intro o1 (And.intro v1 (hB.trans (hB1.mono (by omega)))))
 have HH := hid (And.intro hO (And.intro hp (And.intro hnl hs0)))
 clear o1 v1 hB hB1 v0 hs0 hO hp hnl hD hK
 go_enter Tryz.func36, Tryz.ntmps36
 go_wp2
 clear hW0 hW1 x0
 go_loopw [3, 4] (fun s ix wr => ∃ (k : Nat) (z : Int) (L : List ByteArray), k <= ds.length /\ ix = .int .i64 z /\ z = (k : Int) - 1 /\ wr.ownsRow W0.heap.size 9 1 s L.length (S.en eS L) /\ wr.heap[W.heap.size]? = some (.cells [.slice p1 ds.length c1, .slice p2 bs.length c2].toArray 35 (0, 0)) /\ Below W.heap.size W wr /\ ledD ds k L = ledR ds /\ L.length <= 1 + (ds.length - k) * 1048576) (fun _ ix _ => (intOf ix + 1).toNat)
 case atStart => exact ⟨ds.length, _, [nMain], Nat.le_refl _, rfl, rfl, HI.out.1, HI.out.2.1, HI.out.2.2, rfl, by simp⟩
 case round =>
  clear HI
  obtain ⟨k, z, L, hk, rfl, hz, hR, hv, hb, hL, hlen⟩ := hrel
  obtain ⟨ql, cl, rfl⟩ := q_sl hR
  have x0 := S.cell_of wr _ 0 _ 35 _ hv rfl
  cases k with
  | zero =>
   obtain rfl : z = -1 := by omega
   have HR := hid (And.intro hR (And.intro hb (And.intro hL hlen)))
   have HS := HH.out.2.2.2
   clear hR hb hL hv hlen hz x0
   go_wp2
   go_ret
   have e : L = ledR ds := HR.out.2.2.1
   rw [<- e]
   exact ⟨ql, cl, rfl, own_mono HR.out.1 (by omega), HR.out.2.1, by have := HR.out.2.2.2; omega⟩
  | succ j =>
   obtain rfl : z = (j : Int) := by omega
   have hlt : j < ds.length := by omega
   have i1 : (j : Int) < ds.length := by omega
   have i0 : (0 : Int) <= (j : Int) := by omega
   have ea := List.getElem?_eq_getElem hlt
   have hnl := HH.out.2.2.1 ds[j] (List.getElem_mem _)
   generalize ds[j] = d at *
   obtain ⟨b, o, hpp, hOb, bw, hcl, hNv⟩ := HH.out.2.1 j d ea
   subst hpp
   obtain ⟨qb, cb, hbw, _, _⟩ := id hNv.ex
   subst hbw
   have kb := hb.block b (HH.out.1 b hOb)
   obtain ⟨g0, g1, g2, g3, g4, g5⟩ := cells6 fun i x hx => (World.cell?_of_block (w := W) (a := ⟨b, o + j * 6 + i, none⟩) kb).trans (hcl i x hx)
   have HL : Y.Hd (ledD ds j (ledF L d) = ledR ds) := ⟨by rw [<- hL, ledD, ea]⟩
   have hin := in_r L (by omega) d.nm _ 0 wr (QV.of_own (g := 0) hES hR rfl (by have := HH.out.2.2.2; omega))
   have hnames := names_r d.body _ O wr (fun i hi => Nat.lt_of_lt_of_le (HH.out.1 i hi) hb.size) (hNv.below hb HH.out.1) hnl
   have hnm := nms_len d.body
   have HE := hid (And.intro hR (And.intro hv hb))
   have hq1 : ds.length - j = (ds.length - (j + 1)) + 1 := by omega
   have Hlen : Y.Hd (L.length + 1048576 <= 1 + (ds.length - j) * 1048576) := ⟨by rw [hq1, Nat.succ_mul]; omega⟩
   have hq2 : (ds.length - (j + 1)) * 1048576 <= 1048576 * 1048576 := Nat.mul_le_mul_right _ (by omega)
   have hbnd : L.length <= 1099512676352 := by omega
   clear hq1 hq2
   clear hR hv hb hL hlen hz ea hcl kb hNv
   by_cases hi : inB L d.nm = true
   ·have HF : Y.Hd (ledF L d = L ++ nms d.body) := ⟨if_pos hi⟩
    rw [hi] at hin
    clear hi
    go_wp2_with fail
    refine hin.mono ?_
    rintro e wx ⟨rfl, hx⟩
    obtain rfl := hx.symm
    clear hin
    go_wp2_with fail
    refine hnames.mono ?_
    rintro e w2 ⟨qt, ct, rfl, oT, kT⟩
    clear hnames g0 g1 g2 g3 g4 g5 x0
    have oR : w2.ownsRow W0.heap.size 9 1 (.slice ql L.length cl) L.length (S.en eS L) := S.own_kept HE.out.1 fun g _ hg => kT.block g hg
    have hcs : S.Cs w2 (.slice qt (nms d.body).length ct) 1 (nms d.body).length (S.en eS (nms d.body)) := (S.own_sl hES oT).cs hES (by decide) oneS
    have hsz2 : W0.heap.size <= w2.heap.size := by have := HH.out.2.2.2; have := S.lt_of HE.out.2.1; have := kT.size; omega
    have HB2 := hid (And.intro (HE.out.2.2.trans (kT.mono HE.out.2.2.size)) ((kT.block _ (S.lt_of HE.out.2.1)).trans HE.out.2.1))
    clear kT oT HE
    go_wp2_with (refine S.wpList_append_row w2 rfl _ _ 64 9 _ 1 16 Tryz.underlying64 infoS rfl (by decide) rfl W0.heap.size (.slice ql L.length cl) L.length (S.en eS L) rfl oR _ (nms d.body).length _ rfl hcs (by unfold S.room; omega) (by unfold maxLen; omega) hsz2 (fun v5 w5 hr1 hg1 => ?_); have HG := hid (And.intro hr1 (hg1.below (fun g hg => q_ge oR g hg) hsz2)); clear hr1 hg1)
    go_roundw
    case rel =>
     refine ⟨j, _, ledF L d, by omega, rfl, by omega, ?_, (HG.out.2.block _ (by have := HH.out.2.2.2; omega)).trans HB2.out.2, HB2.out.1.trans (HG.out.2.mono (by have := HH.out.2.2.2; omega)), HL.out, ?_⟩
     ·rw [HF.out, S.en_append, List.length_append]
      exact HG.out.1
     ·rw [HF.out, List.length_append]
      have := Hlen.out
      omega
    case measure => simp [intOf]
   ·have hi' : inB L d.nm = false := by simpa using hi
    have HF : Y.Hd (ledF L d = L) := ⟨if_neg hi⟩
    rw [hi'] at hin
    clear hi hi' hnames
    go_wp2_with fail
    refine hin.mono ?_
    rintro e wx ⟨rfl, hx⟩
    obtain rfl := hx.symm
    clear hin
    go_wp2
    go_roundw
    case rel =>
     refine ⟨j, _, L, by omega, rfl, by omega, HE.out.1, HE.out.2.1, HE.out.2.2, by rw [<- HL.out, HF.out], by have := Hlen.out; omega⟩
    case measure => simp [intOf]
theorem pos_end {fn : Func} {T : Array Value} {b : Nat} {p : Ps} {W : World} (u : Tmp) (hf : fn.results = #[.cell u 25]) (ht : T.getD u undef = .pointer (some ⟨b, 0, none⟩)) (h : PB2 W b p) : (results fn T).run Tryz.prog W = .ok (.agg #[.int .i64 p.1, .int .i64 p.2]) W := by
 have e : (results fn T).run Tryz.prog W = ((asAddr (T.getD u undef)).run Tryz.prog W).andThen fun a w₁ => (loadVar 25 a).run Tryz.prog w₁ := by
  simp only [results, hf]
  simp [Sem.run_bind, Result.andThen]
 rw [e, ht]
 simp [asAddr, run_loadVar_row W b _ 25 _ _ _ h Tryz.underlying25 rfl sizePos]
theorem place_r (ds : List Df) (bs : List Bk) (hd : ds.length <= 1048576) (nm : ByteArray) (dv bv : Value) (O : Nat -> Prop) (W : World) (hO : ∀ j, O j -> j < W.heap.size) (hD : DV W O dv ds) (hK : BV W O bv bs) :
  Calls Tryz.prog 38 #[.agg #[dv, bv], .string nm] W fun e w' => e = .returned (.agg #[.int .i64 (plR nm ds).1, .int .i64 (plR nm ds).2]) /\ Below W.heap.size W w' := by
 obtain ⟨p1, c1, e1, hl1, hp⟩ := id hD
 obtain ⟨p2, c2, e2, _⟩ := id hK
 subst e1 e2
 obtain ⟨W0, hW0⟩ : ∃ W0, W.alloc (.cells #[.slice p1 ds.length c1, .slice p2 bs.length c2] 35) = W0 := ⟨_, rfl⟩
 obtain ⟨W1, hW1⟩ : ∃ W1, W0.alloc (.cells #[.int .i64 0, .int .i64 0] 25) = W1 := ⟨_, rfl⟩
 have hs0 : W0.heap.size = W.heap.size + 1 := by rw [<- hW0]; simp
 have b0 : Below W.heap.size W W0 := by rw [<- hW0]; exact (Below.refl _ _).alloc (Nat.le_refl _) _
 have b1 : Below W0.heap.size W0 W1 := by rw [<- hW1]; exact (Below.refl _ _).alloc (Nat.le_refl _) _
 have hB : Below W.heap.size W W1 := b0.trans (b1.mono (by omega))
 have v0 : W1.heap[W.heap.size]? = some (.cells [.slice p1 ds.length c1, .slice p2 bs.length c2].toArray 35 (0, 0)) := (b1.block _ (by omega)).trans (by rw [<- hW0]; exact heap_alloc_new W _)
 have v1 : PB2 W1 W0.heap.size (0, 0) := by rw [<- hW1]; exact heap_alloc_new W0 _
 have x0 := S.cell_of W1 _ 0 _ 35 _ v0 rfl
 have HH := hid (And.intro hO (And.intro hp (And.intro hB (And.intro v1 hs0))))
 have HR : Y.Hd (plR nm ds = plR nm (ds.drop 0)) := ⟨rfl⟩
 generalize plR nm ds = RR at *
 clear hO hp hB v1 hs0 hD hK b0 b1 v0
 go_enter Tryz.func38, Tryz.ntmps38
 go_wp2
 clear hW0 hW1
 go_loopw [5] (fun ix wr => ∃ k : Nat, k <= ds.length /\ ix = .int .i64 (k : Int) /\ wr = W1 /\ RR = plR nm (ds.drop k)) (fun ix _ => ds.length - (intOf ix).toNat)
 case atStart => exact ⟨0, by omega, rfl, rfl, HR.out⟩
 case round =>
  obtain ⟨k, hk, rfl, rfl, hR⟩ := hrel
  have hst := HH.out.2.2.2.1
  have HT : ∀ q : Ps, Y.Hd (PB2 (wr.setRow W0.heap.size #[.int .i64 q.1, .int .i64 q.2]) W0.heap.size q /\ Below W.heap.size W (wr.setRow W0.heap.size #[.int .i64 q.1, .int .i64 q.2])) := fun q => ⟨setRow_heap wr W0.heap.size _ _ _ _ hst, HH.out.2.2.1.os, HH.out.2.2.1.tape, HH.out.2.2.1.output, by rw [size_setRow]; exact HH.out.2.2.1.size, fun i hi => (setRow_other wr W0.heap.size i _ (by have := HH.out.2.2.2.2; omega)).trans (HH.out.2.2.1.block i hi)⟩
  by_cases hlt : k < ds.length
  ·have i1 : (k : Int) < ds.length := by omega
   have ea := List.getElem?_eq_getElem hlt
   rw [List.drop_eq_getElem_cons hlt, plR] at hR
   generalize ds[k] = d at *
   obtain ⟨b, o, hpp, hOb, bw, hcl, hNv⟩ := HH.out.2.1 k d ea
   subst hpp
   obtain ⟨g0, g1, g2, g3, g4, g5⟩ := cells6 fun i x hx => (World.cell?_of_block (w := W) (a := ⟨b, o + k * 6 + i, none⟩) (HH.out.2.2.1.block b (HH.out.1 b hOb))).trans (hcl i x hx)
   clear hcl ea hNv
   by_cases hn : d.nm = nm
   ·have d1 : (d.nm.toList == nm.toList) = true := by rw [hn]; simp
    have HR2 : Y.Hd (RR = d.p) := ⟨by rw [hR, if_pos hn]⟩
    have HT2 := HT d.p
    clear hn hR
    go_wp2_with (refine wpList_store_row rfl 25 _ _ rfl W0.heap.size _ rfl rfl 25 _ hst (by exact sizePos) (by rfl) (by simp [Value.oneCell']) ?_)
    refine bodyPost_ret (pos_end 4 rfl rfl HT2.out.1) rfl ?_
    rw [HR2.out]
    exact ⟨rfl, HT2.out.2⟩
   ·have hn2 : ¬ d.nm.toList = nm.toList := fun e => hn (R.toList_inj e)
    have d1 : (d.nm.toList == nm.toList) = false := by simpa using hn2
    have HR2 : Y.Hd (RR = plR nm (ds.drop (k + 1))) := ⟨by rw [hR, if_neg hn]⟩
    clear hn hR hst HT
    go_wp2
    go_roundw
    case rel =>
     first
      | exact ⟨k + 1, by omega, by go_num, rfl, HR2.out⟩
      | exact ⟨k + 1, by omega, by go_num, trivial, HR2.out⟩
      | exact ⟨k + 1, by omega, by go_num, HR2.out⟩
    case measure => simp [intOf]; omega
  ·have i1 : ¬ (k : Int) < ds.length := by omega
   rw [List.drop_of_length_le (by omega), plR] at hR
   have HR2 := hid hR
   have HT2 := HT (0, 0)
   simp only at HT2
   clear hR
   go_wp2_with (refine wpList_store_row rfl 25 _ _ rfl W0.heap.size _ rfl rfl 25 _ hst (by exact sizePos) (by rfl) (by simp [Value.oneCell']) ?_)
   refine bodyPost_ret (pos_end (p := (0, 0)) 4 rfl rfl HT2.out.1) rfl ?_
   rw [HR2.out]
   exact ⟨rfl, HT2.out.2⟩
end Go.Proofs.YtlilefhmohkfkaaGreatDoor.E
