import Derived.Test.YtlilefhmohkfkaaGreatDoorEDrop
import Derived.Test.YtlilefhmohkfkaaGreatDoorERfZ
import Derived.Test.YtlilefhmohkfkaaGreatDoorELawS
namespace Go.Proofs.YtlilefhmohkfkaaGreatDoor.E
open Go.RowKit
open Go.Proofs
open Go.Proofs.YtlilefhmohkfkaaGreatDoor.Y (Nd Df Ps ndc dfc hid NV DV D1 BV cells9 cells6 nl)
open R (En lk numb chk Bk dsE dfE ck cks cks_cons)
set_option linter.unusedVariables false
set_option linter.unusedSimpArgs false
set_option maxHeartbeats 2000000
set_option maxRecDepth 100000
theorem te_r {T : Array Value} {w : World} {n1 : Nat} {e p1 p2 : Int} (h2 : T.getD 2 undef = .int .i64 e) (h3 : T.getD 3 undef = .pointer (some ⟨n1, 0, none⟩)) (hb : w.heap[n1]? = some (.cells [Value.int .i64 p1, .int .i64 p2].toArray 25 (0, 0))) :
    (results Tryz.f23 T).run Tryz.prog w = .ok (.tuple #[.int .i64 e, .agg #[.int .i64 p1, .int .i64 p2]]) w := by
  have hf : Tryz.f23.results = #[.tmp 2, .cell 3 25] := rfl
  have e0 : (results Tryz.f23 T).run Tryz.prog w = ((asAddr (T.getD 3 undef)).run Tryz.prog w).andThen fun a w₁ => ((loadVar 25 a).run Tryz.prog w₁).andThen fun v w₂ => .ok (.tuple #[T.getD 2 undef, v]) w₂ := by
    simp only [results, hf]
    simp [Sem.run_bind, Result.andThen]
  rw [e0, h3, h2]
  simp [asAddr, run_loadVar_row w n1 _ 25 _ _ _ hb Tryz.underlying25 rfl sizePos]
def mT (t : Ty) : Bool := decide (t.nm = nMain) && (t.i != 0 || (!t.nv && t.o != 0))
theorem mT_iff (t : Ty) : mT t = true ↔ t.nm = nMain /\ (t.i ≠ 0 \/ (t.nv = false /\ t.o ≠ 0)) := by
  unfold mT
  simp [Bool.and_eq_true, Bool.or_eq_true]
theorem typable_r (ds : List Df) (bs : List Bk) (hd : ds.length <= 1048576) (hnm : ∀ d ∈ ds, d.nm.size <= maxLen) (hnl : ∀ d ∈ ds, nl d.body <= 1048576) (hlb : bs.length <= 140737488355328) (dv bv : Value) (O : Nat -> Prop) (W : World) (hO : ∀ j, O j -> j < W.heap.size) (hD : DV W O dv ds) (hK : BV W O bv bs) (hG : V.GW W) :
    Calls Tryz.prog 23 #[.agg #[dv, bv]] W fun e w' => e = .returned (.tuple #[.int .i64 (typR ds bs).1, .agg #[.int .i64 (typR ds bs).2.1, .int .i64 (typR ds bs).2.2]]) /\ Below W.heap.size W w' := by
  obtain ⟨p1, c1, e1, _, _⟩ := id hD
  obtain ⟨p2, c2, e2, _⟩ := id hK
  subst e1 e2
  obtain ⟨W0, hW0⟩ : ∃ W0, W.alloc (.cells #[.slice p1 ds.length c1, .slice p2 bs.length c2] 35) = W0 := ⟨_, rfl⟩
  obtain ⟨W1, hW1⟩ : ∃ W1, W0.alloc (.cells #[.int .i64 0, .int .i64 0] 25) = W1 := ⟨_, rfl⟩
  have hs0 : W0.heap.size = W.heap.size + 1 := by rw [<- hW0]; simp
  have hB : Below W.heap.size W W1 := by rw [<- hW1, <- hW0]; exact ((Below.refl _ _).alloc (Nat.le_refl _) _).alloc (by simp) _
  have v0 : W1.heap[W.heap.size]? = some (.cells [.slice p1 ds.length c1, .slice p2 bs.length c2].toArray 35 (0, 0)) := by
    rw [<- hW1]; exact (Below.heap_alloc _ _ _ (by omega)).trans (by rw [<- hW0]; exact heap_alloc_new W _)
  have v1 : W1.heap[W0.heap.size]? = some (.cells [Value.int .i64 0, .int .i64 0].toArray 25 (0, 0)) := by rw [<- hW1]; exact heap_alloc_new W0 _
  have c0 := S.cell_of W1 _ 0 _ 35 _ v0 rfl
  have c1' := S.cell_of W1 _ 1 _ 35 _ v0 rfl
  have hc1 := shapes_r ds bs hd hnm hlb _ _ O W1 (fun j hj => Nat.lt_of_lt_of_le (hO j hj) hB.size) (hD.below hB hO) (hK.below hB hO) (hG.below hB)
  have HH := hid (And.intro hB (And.intro v0 (And.intro v1 (And.intro hD (And.intro hK (And.intro hO hs0))))))
  have HNL := hid hnl
  obtain ⟨RR, hR⟩ : ∃ RR, typR ds bs = RR := ⟨_, rfl⟩
  have HR := hid hR
  rw [hR]
  clear hR hB v0 v1 hD hK hO hs0 hnm hnl hG
  go_enter Tryz.func23, Tryz.ntmps23
  go_wp2_with fail
  refine hc1.mono ?_
  intro e w1 hs
  obtain ⟨pn, cn, rfl, oN, hb1⟩ := rso_tls hs
  have hB1 : Below W.heap.size W w1 := HH.out.1.trans (hb1.mono HH.out.1.size)
  have q0 := (hb1.block _ (S.lt_of HH.out.2.1)).trans HH.out.2.1
  have q1 := (hb1.block _ (S.lt_of HH.out.2.2.1)).trans HH.out.2.2.1
  clear hc1 hW0 hW1 c0 c1' hs
  have hle := tls_len ds bs
  have HV1 := hid (And.intro hB1 (And.intro q0 (And.intro q1 (And.intro oN hb1.size))))
  clear hB1 q0 q1 hb1 oN
  obtain ⟨tl, htl⟩ : ∃ tl, tls ds bs = tl := ⟨_, rfl⟩
  rw [htl] at HV1 hle
  rw [htl]
  by_cases hz : chk ds bs = 0
  · have HRR : Y.Hd (RR = (fbR (ledR ds) tl).getD (lsR (plR nMain ds) tl)) := ⟨by
      rw [<- HR.out, <- htl]
      unfold typR tls
      rw [if_pos hz, if_pos hz]⟩
    rw [hz]
    clear hz htl HR
    have c0 := S.cell_of w1 _ 0 _ 35 _ HV1.out.2.1 rfl
    have c1 := S.cell_of w1 _ 1 _ 35 _ HV1.out.2.1 rfl
    have hcl := led_r ds bs hd HNL.out _ _ O w1 (fun j hj => Nat.lt_of_lt_of_le (HH.out.2.2.2.2.2.1 j hj) HV1.out.1.size) (HH.out.2.2.2.1.below HV1.out.1 HH.out.2.2.2.2.2.1) (HH.out.2.2.2.2.1.below HV1.out.1 HH.out.2.2.2.2.2.1)
    go_wp2_with fail
    refine hcl.mono ?_
    rintro e w2 ⟨pl, cl, rfl, oL, hb2, hLl⟩
    clear hcl c0 c1
    have hB2 : Below W.heap.size W w2 := HV1.out.1.trans (hb2.mono HV1.out.1.size)
    have q0 := (hb2.block _ (S.lt_of HV1.out.2.1)).trans HV1.out.2.1
    have q1 := (hb2.block _ (S.lt_of HV1.out.2.2.1)).trans HV1.out.2.2.1
    have oN : w2.ownsRow W1.heap.size 81 9 (.slice pn tl.length cn) tl.length (S.en tyc tl) := S.own_kept HV1.out.2.2.2.1 fun g _ hg => hb2.block g hg
    obtain ⟨L, hLe⟩ : ∃ L, ledR ds = L := ⟨_, rfl⟩
    rw [hLe] at oL hLl HRR
    rw [hLe]
    clear hLe
    have hQL : QV eS 1 9 w2 0 (.slice pl L.length cl) L := QV.of_own hES oL rfl (by have := S.lt_of HV1.out.2.1; omega)
    have hQT : QV tyc 9 81 w2 0 (.slice pn tl.length cn) tl := QV.of_own (e := tyc) (fun _ => rfl) oN rfl (by have := HV1.out.1.size; have := S.lt_of HH.out.2.1; omega)
    obtain ⟨pn', cn', en, _, hcT⟩ := hQT.ex
    cases en
    have H2 := hid (And.intro hB2 (And.intro q0 (And.intro q1 (And.intro hQL hcT))))
    have hlt2 : tl.length <= 1048576 := by omega
    clear hB2 q0 q1 oN oL hb2 hQL hQT hcT
    go_wp2
    go_loopw [7] (fun ix wr => ∃ k : Nat, k <= tl.length /\ ix = .int .i64 (k : Int) /\ wr = w2 /\ fbR L tl = fbR L (tl.drop k)) (fun ix _ => tl.length - (intOf ix).toNat)
    case atStart => exact ⟨0, by omega, rfl, rfl, rfl⟩
    case round =>
      obtain ⟨k, hk, rfl, hwr, hfb⟩ := hrel
      obtain rfl := hwr.symm
      by_cases hlt : k < tl.length
      · have i1 : (k : Int) < tl.length := by omega
        have eT := List.getElem?_eq_getElem hlt
        rw [List.drop_eq_getElem_cons hlt, fbR] at hfb
        generalize tl[k] = t at *
        obtain ⟨b, rfl, _, hbl, hcx⟩ := H2.out.2.2.2.2 k t eT
        have d0 := hcx 0 _ rfl
        have d6 := hcx 6 _ rfl
        have d7 := hcx 7 _ rfl
        have d8 := hcx 8 _ rfl
        rw [Nat.add_zero] at d0
        clear hcx eT
        by_cases he : t.e = 0
        · have HF : Y.Hd (fbR L tl = fbR L (tl.drop (k + 1))) := ⟨by rw [hfb, if_neg (fun h => h.1 he)]⟩
          rw [he] at d6
          clear he hfb
          go_wp2
          go_roundw
          case rel =>
            first
              | exact ⟨k + 1, by omega, by go_num, rfl, HF.out⟩
              | exact ⟨k + 1, by omega, by go_num, trivial, HF.out⟩
              | exact ⟨k + 1, by omega, by go_num, HF.out⟩
          case measure => simp [intOf]; omega
        · have hne : (t.e != 0) = true := by simpa using he
          have hin := in_r L (by omega) t.nm _ 0 w2 H2.out.2.2.2.1
          by_cases hi : inB L t.nm = true
          · have HF : Y.Hd (RR = (t.e, t.p)) := ⟨by rw [HRR.out, hfb, if_pos ⟨he, hi⟩]; rfl⟩
            rw [hi] at hin
            clear he hfb hi
            go_upto_region 8 with fail
            go_wp2_with fail
            refine hin.mono ?_
            rintro e wx ⟨rfl, hx⟩
            obtain rfl := hx.symm
            clear hin
            go_upto_region 9 with fail
            have hS : ∀ wz, Below w2.heap.size w2 wz -> (fun wz : World => wz.cell? ⟨b, k * 9 + 6, none⟩ = some (.int .i64 t.e) /\ wz.cell? ⟨b, k * 9 + 7, none⟩ = some (.int .i64 t.p.1) /\ wz.cell? ⟨b, k * 9 + 8, none⟩ = some (.int .i64 t.p.2)) wz := fun wz hz => by
              have hv := hz.block b hbl
              exact ⟨(World.cell?_of_block (w := w2) (a := ⟨b, k * 9 + 6, none⟩) hv).trans d6, (World.cell?_of_block (w := w2) (a := ⟨b, k * 9 + 7, none⟩) hv).trans d7, (World.cell?_of_block (w := w2) (a := ⟨b, k * 9 + 8, none⟩) hv).trans d8⟩
            refine wp_region_drop [11] (S := fun wz : World => wz.cell? ⟨b, k * 9 + 6, none⟩ = some (.int .i64 t.e) /\ wz.cell? ⟨b, k * 9 + 7, none⟩ = some (.int .i64 t.p.1) /\ wz.cell? ⟨b, k * 9 + 8, none⟩ = some (.int .i64 t.p.2)) (by kernel_rfl) (hS w2.drew (Below.refl _ _).drew) (fun hHeld => ?_)
            have HYd := hid (And.intro (show Below W.heap.size W w2.drew from H2.out.1.drew) (show w2.drew.heap[W0.heap.size]? = _ from H2.out.2.2.1))
            generalize w2.drew = yd at *
            clear hS d0 d6 d7 d8 hne
            refine E.zP (is := [0, 1, 2, 3]) ?_
            iterate 4
             refine E.yP (v := ?_) rfl (by kernel_rfl) (fun c a w h => h) (by rfl) ?_ (fun _ => hHeld) ?_
             rotate_left
             · (intro w hSw; clear hSw; go_simp; try with_reducible rfl)
             simp only [E.pts]
            refine E.eP ?_
            refine E.xT 4 (v := ?_) rfl (by kernel_rfl) (fun c a w h => h) (by rfl) ?_ hHeld ?_
            rotate_left
            · (intro w hSw; (try dsimp only at hSw); go_simp; try with_reducible rfl)
            simp only [E.pts]
            refine E.zP (is := [5, 6, 7, 8]) ?_
            iterate 4
             refine E.yP (v := ?_) rfl (by kernel_rfl) (fun c a w h => h) (by rfl) ?_ (fun _ => hHeld) ?_
             rotate_left
             · (intro w hSw; clear hSw; go_simp; try with_reducible rfl)
             simp only [E.pts]
            refine E.eP ?_
            refine E.xT 9 (v := ?_) rfl (by kernel_rfl) (fun c a w h => h) (by rfl) ?_ hHeld ?_
            rotate_left
            · (intro w hSw; (try dsimp only at hSw); go_simp; try with_reducible rfl)
            simp only [E.pts]
            refine E.xP 10 (v := ?_) rfl (by kernel_rfl) (fun c a w h => h) (by rfl) ?_ (fun _ => hHeld) ?_
            rotate_left
            · (intro w hSw; clear hSw; go_simp; try with_reducible rfl)
            simp only [E.pts]
            have hst := HYd.out.2
            have r0 := S.cell_of yd _ 0 _ 25 _ hst rfl
            have r1 := S.cell_of yd _ 1 _ 25 _ hst rfl
            have f0 := S.frozen_of yd W0.heap.size 0 _ 25 hst
            have f1 := S.frozen_of yd W0.heap.size 1 _ 25 hst
            have hW0s : W.heap.size <= W0.heap.size := by have := HH.out.2.2.2.2.2.2; omega
            have hF2 := S.setCell_heap _ W0.heap.size 1 _ 25 (.int .i64 t.p.2) (S.setCell_heap yd W0.heap.size 0 _ 25 (.int .i64 t.p.1) hst)
            have HFin := hid (And.intro hF2 ((HYd.out.1.setCell (p := ⟨W0.heap.size, 0, none⟩) hW0s (.int .i64 t.p.1)).setCell (p := ⟨W0.heap.size, 1, none⟩) hW0s (.int .i64 t.p.2)))
            clear hF2 hst hW0s
            refine wpD_ready (rs := [11]) (by kernel_rfl) (by simp) ?_
            refine AllD.late rfl (by kernel_rfl) (fun K hK => ?_)
            go_simp
            refine hK.out _ _ ?_
            clear hK K
            try simp only [E.pts]
            refine wpD_done (by kernel_rfl) ?_ _
            clear r0 r1 f0 f1
            go_wp2
            refine bodyPost_ret (te_r rfl rfl HFin.out.1) rfl ⟨?_, HFin.out.2⟩
            rw [HF.out]
          · have hi' : inB L t.nm = false := by simpa using hi
            have HF : Y.Hd (fbR L tl = fbR L (tl.drop (k + 1))) := ⟨by rw [hfb, if_neg (fun h => hi h.2)]⟩
            rw [hi'] at hin
            clear he hfb hi hi'
            go_upto_region 8 with fail
            go_wp2_with fail
            refine hin.mono ?_
            rintro e wx ⟨rfl, hx⟩
            obtain rfl := hx.symm
            clear hin
            go_wp2
            go_roundw
            case rel =>
              first
                | exact ⟨k + 1, by omega, by go_num, rfl, HF.out⟩
                | exact ⟨k + 1, by omega, by go_num, trivial, HF.out⟩
                | exact ⟨k + 1, by omega, by go_num, HF.out⟩
            case measure => simp [intOf]; omega
      · have i1 : ¬ (k : Int) < tl.length := by omega
        have HR2 : Y.Hd (RR = lsR (plR nMain ds) tl) := ⟨by
          rw [HRR.out, hfb, List.drop_eq_nil_of_le (by omega)]
          rfl⟩
        clear hfb HRR hk
        go_wp2
        clear i1
        go_loopw [8] (fun ix wr => ∃ j : Nat, j <= tl.length /\ ix = .int .i64 (j : Int) /\ Below w2.heap.size w2 wr /\ lsR (plR nMain ds) tl = lsR (plR nMain ds) (tl.drop j)) (fun ix _ => tl.length - (intOf ix).toNat)
        case atStart => exact ⟨0, by omega, rfl, Below.refl _ _, rfl⟩
        case round =>
          obtain ⟨j, hj, rfl, hbq, hls⟩ := hrel
          have HQ := hid (And.intro (H2.out.1.trans (hbq.mono H2.out.1.size)) (And.intro ((hbq.block _ (S.lt_of H2.out.2.1)).trans H2.out.2.1) ((hbq.block _ (S.lt_of H2.out.2.2.1)).trans H2.out.2.2.1)))
          by_cases hlt : j < tl.length
          · have i1 : (j : Int) < tl.length := by omega
            have eT := List.getElem?_eq_getElem hlt
            rw [List.drop_eq_getElem_cons hlt, lsR] at hls
            generalize tl[j] = t at *
            obtain ⟨b, rfl, _, hbl, hcx0⟩ := H2.out.2.2.2.2 j t eT
            have hcx : ∀ (s : Nat) (x : Value), (tyc t)[s]? = some x -> wr.cell? ⟨b, j * 9 + s, none⟩ = some x := fun s x hx => (World.cell?_of_block (w := w2) (a := ⟨b, j * 9 + s, none⟩) (hbq.block b hbl)).trans (hcx0 s x hx)
            have d0 := hcx 0 _ rfl
            have d1 := hcx 1 _ rfl
            have d2 := hcx 2 _ rfl
            have d3 := hcx 3 _ rfl
            have d4 := hcx 4 _ rfl
            have d5 := hcx 5 _ rfl
            rw [Nat.add_zero] at d0
            obtain ⟨y, hy⟩ : ∃ y, wr.alloc (.cells #[.int .i64 t.i, .int .i64 t.o, .int .i64 t.d, .int .i64 t.r, .bool t.nv] 45) = y := ⟨_, rfl⟩
            have zb : Below wr.heap.size wr y := by rw [<- hy]; exact (Below.refl _ _).alloc (Nat.le_refl _) _
            have vb : y.heap[wr.heap.size]? = some (.cells [.int .i64 t.i, .int .i64 t.o, .int .i64 t.d, .int .i64 t.r, .bool t.nv].toArray 45 (0, 0)) := by rw [<- hy]; exact heap_alloc_new wr _
            have t0 := S.cell_of y _ 0 _ 45 _ vb rfl
            have t1 := S.cell_of y _ 1 _ 45 _ vb rfl
            have t4 := S.cell_of y _ 4 _ 45 _ vb rfl
            have e0 : y.cell? ⟨b, j * 9, none⟩ = some (.string t.nm) := (World.cell?_of_block (w := wr) (a := ⟨b, j * 9, none⟩) (zb.block b (by have := hbq.size; omega))).trans d0
            have HY := hid (And.intro (HQ.out.1.trans (zb.mono HQ.out.1.size)) (And.intro ((zb.block _ (S.lt_of HQ.out.2.1)).trans HQ.out.2.1) (And.intro ((zb.block _ (S.lt_of HQ.out.2.2)).trans HQ.out.2.2) (hbq.trans (zb.mono hbq.size)))))
            have HT : Y.Hd (if mT t = true then lsR (plR nMain ds) tl = (154, plR nMain ds) else lsR (plR nMain ds) tl = lsR (plR nMain ds) (tl.drop (j + 1))) := ⟨by
              by_cases c : mT t = true
              · rw [if_pos c, hls, if_pos ((mT_iff t).1 c)]
              · rw [if_neg c, hls, if_neg (fun x => c ((mT_iff t).2 x))]⟩
            clear hcx hcx0 eT zb vb hls hbq HQ
            go_upto_region 14 with fail
            clear d0 d1 d2 d3 d4 d5 hy
            go_cut [83] (fun sx wc => sx = .bool (mT t) /\ wc = y)
            case first =>
              by_cases hm : t.nm = nMain
              · have g1 : (t.nm.toList == [109, 97, 105, 110]) = true := by rw [hm]; kernel_rfl
                by_cases hi0 : t.i = 0
                · rw [hi0] at t0
                  cases hv : t.nv with
                  | true =>
                    have hmt : mT t = false := by unfold mT; rw [hi0, hv]; simp
                    have HM := hid hmt
                    rw [hv] at t4
                    clear hm hi0 hv hmt
                    go_wp2
                    go_meet
                    case rel => exact ⟨by rw [HM.out], rfl⟩
                  | false =>
                    have hmt : mT t = (t.o != 0) := by unfold mT; rw [hm, hi0, hv]; simp
                    have HM := hid hmt
                    rw [hv] at t4
                    clear hm hi0 hv hmt
                    go_wp2
                    go_meet
                    case rel => exact ⟨by rw [HM.out], rfl⟩
                · have hne : (t.i != 0) = true := by simpa using hi0
                  have hmt : mT t = true := by unfold mT; rw [hm, hne]; simp
                  have HM := hid hmt
                  clear hm hi0 hmt
                  go_wp2
                  go_meet
                  case rel => exact ⟨by rw [HM.out], rfl⟩
              · have hm2 : ¬ t.nm.toList = [109, 97, 105, 110] := fun e => hm (R.toList_inj (e.trans (by kernel_rfl : [109, 97, 105, 110] = nMain.toList)))
                have g1 : (t.nm.toList == [109, 97, 105, 110]) = false := by simpa using hm2
                have hmt : mT t = false := by unfold mT; simp [hm]
                have HM := hid hmt
                clear hm hm2 hmt
                go_wp2
                go_meet
                case rel => exact ⟨by rw [HM.out], rfl⟩
            case rest =>
              obtain ⟨rfl, hwc⟩ := hcut
              obtain rfl := hwc.symm
              cases hm : mT t with
              | true =>
                have hls := HT.out
                rw [hm, if_pos rfl] at hls
                have HF : Y.Hd (RR = (154, plR nMain ds)) := ⟨HR2.out.trans hls⟩
                clear hls hm t0 t1 t4 e0
                have c0 := S.cell_of y _ 0 _ 35 _ HY.out.2.1 rfl
                have c1 := S.cell_of y _ 1 _ 35 _ HY.out.2.1 rfl
                have hpl := place_r ds bs hd nMain _ _ O y (fun j hj => Nat.lt_of_lt_of_le (HH.out.2.2.2.2.2.1 j hj) HY.out.1.size) (HH.out.2.2.2.1.below HY.out.1 HH.out.2.2.2.2.2.1) (HH.out.2.2.2.2.1.below HY.out.1 HH.out.2.2.2.2.2.1)
                unfold nMain at hpl
                go_wp2_with fail
                refine hpl.mono ?_
                rintro e w4 ⟨rfl, k4⟩
                have HK4 := hid (And.intro (HY.out.1.trans (k4.mono HY.out.1.size)) ((k4.block _ (S.lt_of HY.out.2.2.1)).trans HY.out.2.2.1))
                clear hpl k4 c0 c1
                obtain ⟨q, hq⟩ : ∃ q, plR nMain ds = q := ⟨_, rfl⟩
                rw [hq] at HF
                unfold nMain at hq
                rw [hq]
                clear hq
                have hst := HK4.out.2
                have r0 := S.cell_of w4 _ 0 _ 25 _ hst rfl
                have r1 := S.cell_of w4 _ 1 _ 25 _ hst rfl
                have f0 := S.frozen_of w4 W0.heap.size 0 _ 25 hst
                have f1 := S.frozen_of w4 W0.heap.size 1 _ 25 hst
                have hW0s : W.heap.size <= W0.heap.size := by have := HH.out.2.2.2.2.2.2; omega
                have hF2 := S.setCell_heap _ W0.heap.size 1 _ 25 (.int .i64 q.2) (S.setCell_heap w4 W0.heap.size 0 _ 25 (.int .i64 q.1) hst)
                have HFin := hid (And.intro hF2 ((HK4.out.1.setCell (p := ⟨W0.heap.size, 0, none⟩) hW0s (.int .i64 q.1)).setCell (p := ⟨W0.heap.size, 1, none⟩) hW0s (.int .i64 q.2)))
                clear hF2 hst hW0s
                go_wp2
                refine bodyPost_ret (te_r rfl rfl HFin.out.1) rfl ⟨?_, HFin.out.2⟩
                rw [HF.out]
              | false =>
                have hls := HT.out
                rw [hm, if_neg (by simp)] at hls
                have HLS := hid hls
                clear hls hm t0 t1 t4 e0
                go_wp2
                go_roundw
                case rel => exact ⟨j + 1, by omega, by go_num, HY.out.2.2.2, HLS.out⟩
                case measure => simp [intOf]; omega
          · have i1 : ¬ (j : Int) < tl.length := by omega
            have HF : Y.Hd (RR = (0, (0, 0))) := ⟨by rw [HR2.out, hls, List.drop_eq_nil_of_le (by omega)]; rfl⟩
            clear hls hbq
            have hst := HQ.out.2.2
            have r0 := S.cell_of wr _ 0 _ 25 _ hst rfl
            have r1 := S.cell_of wr _ 1 _ 25 _ hst rfl
            have f0 := S.frozen_of wr W0.heap.size 0 _ 25 hst
            have f1 := S.frozen_of wr W0.heap.size 1 _ 25 hst
            have hW0s : W.heap.size <= W0.heap.size := by have := HH.out.2.2.2.2.2.2; omega
            have hF2 := S.setCell_heap _ W0.heap.size 1 _ 25 (.int .i64 0) (S.setCell_heap wr W0.heap.size 0 _ 25 (.int .i64 0) hst)
            have HFin := hid (And.intro hF2 ((HQ.out.1.setCell (p := ⟨W0.heap.size, 0, none⟩) hW0s (.int .i64 0)).setCell (p := ⟨W0.heap.size, 1, none⟩) hW0s (.int .i64 0)))
            clear hF2 hst hW0s
            go_wp2
            refine bodyPost_ret (te_r rfl rfl HFin.out.1) rfl ⟨?_, HFin.out.2⟩
            rw [HF.out]
  · have hne : (chk ds bs != 0) = true := by simpa using hz
    have HZ := hid hz
    clear hz
    have hst := HV1.out.2.2.1
    have r0 := S.cell_of w1 _ 0 _ 25 _ hst rfl
    have r1 := S.cell_of w1 _ 1 _ 25 _ hst rfl
    have f0 := S.frozen_of w1 W0.heap.size 0 _ 25 hst
    have f1 := S.frozen_of w1 W0.heap.size 1 _ 25 hst
    have hW0s : W.heap.size <= W0.heap.size := by have := HH.out.2.2.2.2.2.2; omega
    have hF2 := S.setCell_heap _ W0.heap.size 1 _ 25 (.int .i64 0) (S.setCell_heap w1 W0.heap.size 0 _ 25 (.int .i64 0) hst)
    have HFin := hid (And.intro hF2 ((HV1.out.1.setCell (p := ⟨W0.heap.size, 0, none⟩) hW0s (.int .i64 0)).setCell (p := ⟨W0.heap.size, 1, none⟩) hW0s (.int .i64 0)))
    clear hF2 hst hW0s
    have HF : Y.Hd (RR = (chk ds bs, (0, 0))) := ⟨by rw [<- HR.out]; unfold typR; rw [if_neg HZ.out]⟩
    go_wp2
    refine bodyPost_ret (te_r rfl rfl HFin.out.1) rfl ⟨?_, HFin.out.2⟩
    rw [HF.out]
open Go.Proofs.YtlilefhmohkfkaaGreatDoor.Y (Nd Df Ps ndc dfc hid NV DV D1 cells6 BV QD OWN WN nl own_prog whole_prog)
open R (En cks MP dsE dfE chk Bk)
set_option linter.unusedVariables false
set_option linter.unusedSimpArgs false
set_option maxHeartbeats 2000000
set_option maxRecDepth 100000
theorem typable_walk (ds : List Df) (bs : List Bk) (hd : ds.length <= 1048575) (hnm : ∀ d ∈ ds, d.nm.size <= maxLen) (hnl : ∀ d ∈ ds, nl d.body <= 1048576) (hlb : bs.length <= 1048576) (hbl : ∀ d ∈ bs, d.2.length <= 1048576) (dv bv : Value) (O : Nat -> Prop) (W : World) (hO : ∀ j, O j -> j < W.heap.size) (hD : DV W O dv ds) (hK : BV W O bv bs) (hG : V.GW W) :
  Calls Tryz.prog 6 #[.agg #[dv, bv]] W fun e w' => e = .returned (.bool true) /\ Below W.heap.size W w' := by
 obtain ⟨p1, c1, e1, hl1, _⟩ := id hD
 obtain ⟨p2, c2, e2, _⟩ := id hK
 subst e1 e2
 obtain ⟨W0, hW0⟩ : ∃ W0, W.alloc (.cells #[.slice p1 ds.length c1, .slice p2 bs.length c2] 35) = W0 := ⟨_, rfl⟩
 have hB : Below W.heap.size W W0 := by rw [<- hW0]; exact (Below.refl _ _).alloc (Nat.le_refl _) _
 have v0 : W0.heap[W.heap.size]? = some (.cells [.slice p1 ds.length c1, .slice p2 bs.length c2].toArray 35 (0, 0)) := by rw [<- hW0]; exact heap_alloc_new W _
 have x0 := S.cell_of W0 _ 0 _ 35 _ v0 rfl
 have x1 := S.cell_of W0 _ 1 _ 35 _ v0 rfl
 have hO0 : ∀ j, O j -> j < W0.heap.size := fun j hj => Nat.lt_of_lt_of_le (hO j hj) hB.size
 have hc0 := own_prog ds bs _ _ O W0 hO0 (hD.below hB hO) (hK.below hB hO) (by omega) hnl hlb hbl
 have HH := hid (And.intro hB (And.intro v0 (And.intro hO (And.intro hD (And.intro hK hG)))))
 have HNM := hid hnm
 have HNL := hid hnl
 clear hB v0 hO hD hK hG hO0 hnm hnl hbl
 go_enter Tryz.func6, Tryz.ntmps6
 go_wp2_with fail
 refine hc0.mono ?_
 rintro e w1 ⟨U, b, c, bk, rfl, hown⟩
 clear hc0 hW0 x0 x1
 obtain ⟨hdv, hbv⟩ := own_dv hown
 obtain ⟨pk, ckk, hbk, _⟩ := id hbv
 subst hbk
 obtain ⟨w2, hw2⟩ : ∃ w2, w1.alloc (.cells #[.slice (some ⟨b, 0, none⟩) ds.length c, .slice pk bs.length ckk] 35) = w2 := ⟨_, rfl⟩
 have k2 : Below w1.heap.size w1 w2 := by rw [<- hw2]; exact (Below.refl _ _).alloc (Nat.le_refl _) _
 have v2 : w2.heap[w1.heap.size]? = some (.cells [.slice (some ⟨b, 0, none⟩) ds.length c, .slice pk bs.length ckk].toArray 35 (0, 0)) := by rw [<- hw2]; exact heap_alloc_new w1 _
 have x0 := S.cell_of w2 _ 0 _ 35 _ v2 rfl
 have x1 := S.cell_of w2 _ 1 _ 35 _ v2 rfl
 have hcs := typable_any ds bs (by omega) HNM.out (by omega) _ _ (fun i => W0.heap.size <= i /\ i < w1.heap.size) w2 (fun j hj => Nat.lt_of_lt_of_le hj.2 k2.size) (hdv.kept (fun i hi => k2.block i hi.2) fun _ h => h) (hbv.kept (fun i hi => k2.block i hi.2) fun _ h => h)
 have H2 := hid (And.intro hown (And.intro k2 (And.intro v2 (And.intro hdv hbv))))
 clear hown k2 v2 hdv hbv
 obtain ⟨z, a, b', hz⟩ : ∃ z a b', typP ds bs = (z, (a, b')) := ⟨_, _, _, rfl⟩
 have hcr0 := fun O w hO hD hK hG => typable_r ds bs (by omega) HNM.out HNL.out (by omega) (.slice p1 ds.length c1) (.slice p2 bs.length c2) O w hO hD hK hG
 rw [hz] at hcs
 rw [typR_is, hz] at hcr0
 simp only at hcs hcr0
 go_wp2_with fail
 refine hcs.mono ?_
 rintro e w3 ⟨rfl, kL⟩
 clear hcs hw2 x0 x1
 have v3 := (kL.block _ (S.lt_of H2.out.2.2.1)).trans H2.out.2.2.1
 have b13 : Below w1.heap.size w1 w3 := H2.out.2.1.trans (kL.mono H2.out.2.1.size)
 obtain ⟨w4, hw4⟩ : ∃ w4, w3.alloc (.cells #[.int .i64 a, .int .i64 b'] 25) = w4 := ⟨_, rfl⟩
 have k4 : Below w3.heap.size w3 w4 := by rw [<- hw4]; exact (Below.refl _ _).alloc (Nat.le_refl _) _
 have u4 : PB2 w4 w3.heap.size (a, b') := by rw [<- hw4]; exact heap_alloc_new w3 _
 have v4 := (k4.block _ (S.lt_of v3)).trans v3
 have b14 : Below w1.heap.size w1 w4 := b13.trans (k4.mono b13.size)
 have b04 : Below W0.heap.size W0 w4 := H2.out.1.bel.trans (b14.mono H2.out.1.bel.size)
 have bW4 : Below W.heap.size W w4 := HH.out.1.trans (b04.mono HH.out.1.size)
 have y4 := (b04.block _ (S.lt_of HH.out.2.1)).trans HH.out.2.1
 have x0 := S.cell_of w4 _ 0 _ 35 _ y4 rfl
 have x1 := S.cell_of w4 _ 1 _ 35 _ y4 rfl
 have hcr := hcr0 O w4 (fun j hj => Nat.lt_of_lt_of_le (HH.out.2.2.1 j hj) bW4.size) (HH.out.2.2.2.1.below bW4 HH.out.2.2.1) (HH.out.2.2.2.2.1.below bW4 HH.out.2.2.1) (HH.out.2.2.2.2.2.below bW4)
 have H4 := hid (And.intro b14 (And.intro bW4 (And.intro v4 (And.intro y4 u4))))
 clear b14 bW4 v4 y4 u4 b04 b13 v3 kL k4 hcr0
 go_wp2_with fail
 refine hcr.mono ?_
 rintro e w5 ⟨rfl, k5⟩
 clear hcr hw4 x0 x1
 obtain ⟨w6, hw6⟩ : ∃ w6, w5.alloc (.cells #[.int .i64 a, .int .i64 b'] 25) = w6 := ⟨_, rfl⟩
 have k6 : Below w5.heap.size w5 w6 := by rw [<- hw6]; exact (Below.refl _ _).alloc (Nat.le_refl _) _
 have u6 : PB2 w6 w5.heap.size (a, b') := by rw [<- hw6]; exact heap_alloc_new w5 _
 have b46 : Below w4.heap.size w4 w6 := k5.trans (k6.mono k5.size)
 have t6 := (b46.block _ (S.lt_of H4.out.2.2.2.2)).trans H4.out.2.2.2.2
 have vq6 := (b46.block _ (S.lt_of H4.out.2.2.1)).trans H4.out.2.2.1
 have vp6 := (b46.block _ (S.lt_of H4.out.2.2.2.1)).trans H4.out.2.2.2.1
 have b16 : Below w1.heap.size w1 w6 := H4.out.1.trans (b46.mono H4.out.1.size)
 have bW6 : Below W.heap.size W w6 := H4.out.2.1.trans (b46.mono H4.out.2.1.size)
 have x0 := S.cell_of w6 _ 0 _ 35 _ vp6 rfl
 have x1 := S.cell_of w6 _ 1 _ 35 _ vp6 rfl
 have q0 := S.cell_of w6 _ 0 _ 35 _ vq6 rfl
 have q1 := S.cell_of w6 _ 1 _ 35 _ vq6 rfl
 have m0 := S.cell_of w6 _ 0 _ 25 _ t6 rfl
 have m1 := S.cell_of w6 _ 1 _ 25 _ t6 rfl
 have n0 := S.cell_of w6 _ 0 _ 25 _ u6 rfl
 have n1 := S.cell_of w6 _ 1 _ 25 _ u6 rfl
 simp only at m0 m1 n0 n1
 have ee := fun w => eql_pos w a b'
 have hkept := whole_prog ds bs _ _ _ b c U O (fun i => W0.heap.size <= i /\ i < w1.heap.size) w6 (fun j hj => Nat.lt_of_lt_of_le (HH.out.2.2.1 j hj) bW6.size) (fun j hj => Nat.lt_of_lt_of_le (H2.out.1.u j hj).2.1 b16.size) (fun j hj => Nat.lt_of_lt_of_le hj.2 b16.size) (Nat.lt_of_lt_of_le H2.out.1.bb.2 b16.size) (H2.out.1.d.kept (b16.block b H2.out.1.bb.2) (fun i hi => b16.block i (H2.out.1.u i hi).2.1) fun _ h => h) (HH.out.2.2.2.1.below bW6 HH.out.2.2.1) (H2.out.2.2.2.2.kept (fun i hi => b16.block i hi.2) fun _ h => h) (HH.out.2.2.2.2.1.below bW6 HH.out.2.2.1) hlb
 have H6 := hid bW6
 clear vp6 vq6 b16 bW6 k6 u6 t6 b46 k5
 go_wp2_with fail
 refine (num_any z w6).mono ?_
 rintro e wx ⟨rfl, hx⟩
 obtain rfl := hx.symm
 go_wp2_with fail
 refine hkept.mono ?_
 rintro e w7 ⟨rfl, k7⟩
 have H7 := hid (H6.out.trans (k7.mono H6.out.size))
 clear hkept x0 x1 q0 q1 m0 m1 n0 n1 ee k7 hw6
 go_wp2_with fail
 refine (known_any w7).mono ?_
 rintro e w8 ⟨rfl, k8⟩
 have H8 := hid (H7.out.trans (k8.mono H7.out.size))
 clear k8
 go_wp2
 go_ret
 exact ⟨rfl, H8.out⟩
end Go.Proofs.YtlilefhmohkfkaaGreatDoor.E
