import Derived.Test.YtoemoiehjdmheaaGreatZNew
import Derived.Test.YtoemoiehjdmheaaGreatYOwP
import Derived.Deep.DeepCutAuto
namespace Go.Proofs.YtoemoiehjdmheaaGreat.Z
open Go.RowKit
open Go.Proofs
open Go.Proofs.YtoemoiehjdmheaaGreat.R (chk Bk)
open Go.Proofs.YtoemoiehjdmheaaGreat.Y (Nd Df Ps Pl hid ZV DV BV BS rgN rgN_is rgD)
set_option linter.unusedVariables false
set_option linter.unusedSimpArgs false
set_option maxHeartbeats 40000000
set_option maxRecDepth 100000
theorem sizeG : (Tryz.prog.info? 47).map (·.size) = some 2 := by kernel_rfl
theorem sizeL : (Tryz.prog.info? 50).map (·.size) = some 2 := by kernel_rfl
theorem neq_pos0 (W : World) : (binOp .neq 33 (.agg #[.int .i64 0, .int .i64 0]) (.agg #[.int .i64 0, .int .i64 0])).run Tryz.prog W = .ok (.bool false) W := by
  obtain ⟨hs, hf, hp, k3⟩ := posF
  rw [run_neq_struct, run_equalIn_agg W 9999 _ _ _ hs hp, hf]
  simp [go_sem, Tryz.underlying3, k3, Result.andThen]
theorem fresh_mono {n m g bd br bs : Nat} {F O : Nat -> Prop} (h : Fresh n g bd br bs F O) (k : m <= n) : Fresh m g bd br bs F O :=
  ⟨Nat.le_trans k h.g, Nat.le_trans k h.d, Nat.le_trans k h.r, Nat.le_trans k h.s, fun i e => Nat.le_trans k (h.f i e), fun i e => Nat.le_trans k (h.o i e)⟩
theorem born_st (ds : List Df) (bs : List Bk) : St (born ds bs) := .inl ⟨rfl, rfl⟩
theorem XI.first {w w2 w3 : World} {n g bd br bm bq c : Nat} {F U : Nat -> Prop} {ds : List Df} {bs : List Bk} (hM : MV w2 g bd br bm bq c F U (born ds bs)) (hf : Fresh n g bd br bq F U) (hn : w.heap.size <= n) (hB : Below w.heap.size w w2) (h3 : Below w2.heap.size w2 w3) :
    XI w (w3.alloc (.cells #[.int .i64 0, .int .i64 0, .int .i64 0, .int .i64 0, .int .i64 0, .slice none 0 0, .slice none 0 0] 28)) g bd br bm bq c F U w3.heap.size (born ds bs) false #[.int .i64 0, .int .i64 0, .int .i64 0, .int .i64 0, .int .i64 0, .slice none 0 0, .slice none 0 0] := by
  have b := P.bel_alloc w3 (.cells #[.int .i64 0, .int .i64 0, .int .i64 0, .int .i64 0, .int .i64 0, .slice none 0 0, .slice none 0 0] 28)
  have b' := trB h3 b h3.size
  have s3 := h3.size
  exact ⟨hM.below b', fresh_mono hf hn, trB hB b' hB.size, Nat.le_trans hB.size s3, by have := hM.lt; omega, by have := hM.lt_d; omega, by have := hM.lt_r; omega, by have := hM.lt_s; omega, fun f => by have := hM.fl _ f; omega, fun f => by have := hM.ol _ f; omega, heap_alloc_new w3 _, born_st ds bs, rfl, rfl, fun h => by cases h⟩
theorem new_no (ds : List Df) (bs : List Bk) (hnm : ∀ d ∈ ds, d.nm.size <= maxLen) (hlb : bs.length <= 1048576) (dv : Value) (bp : Option Addr) (bc : Nat) (O : Nat -> Prop) (w : World) (hO : ∀ j, O j -> j < w.heap.size) (hD : DV w O dv ds) (hK : BV w O (.slice bp bs.length bc) bs) (h : newE ds bs ≠ 0) :
    Calls Tryz.prog 14 #[.agg #[dv, .slice bp bs.length bc]] w fun e w' => e = .returned (.tuple #[.pointer none, .int .i64 (newE ds bs)]) /\ Below w.heap.size w w' := by
  by_cases q : chk ds bs = 0
  · refine new_lay ds bs hnm hlb dv bp bc O w hO hD hK q fun e => h ?_
    unfold newE; rw [if_pos q]; exact e
  · exact new_chk ds bs hnm hlb dv bp bc O w hO hD hK q
theorem next_all {g bd br bm bs c : Nat} {F O : Nat -> Prop} {v : VS} (w : World) (h : MV w g bd br bm bs c F O v) (hk : calls v.R = v.o.length) : ∃ (pa pb co : Int) (ok : Bool), Y.Hd ((v.st = 1 -> ok = true /\ 1 <= co /\ co <= 4) /\ (v.st ≠ 1 -> ok = false /\ pa = 0 /\ pb = 0 /\ co = 0)) /\ Calls Tryz.prog 8 #[.pointer (some ⟨g, 0, none⟩)] w fun e w' => e = .returned (.tuple #[.agg #[.int .i64 pa, .int .i64 pb], .int .i64 co, .bool ok]) /\ Below w.heap.size w w' := by
  by_cases q : v.st = 1
  · exact ⟨_, _, _, true, hid ⟨fun _ => ⟨rfl, cost_r _⟩, fun e => absurd q e⟩, next_any w h q hk⟩
  · exact ⟨0, 0, 0, false, hid ⟨fun e => absurd e q, fun _ => ⟨rfl, rfl, rfl, rfl⟩⟩, next_stop w h q⟩
theorem frames_walk (ds : List Df) (bs : List Bk) (hd1 : ds.length <= 1048576) (hdd : ∀ d ∈ ds, Y.nl d.body <= 1048576 /\ d.nm.size <= maxLen /\ rgD d) (hb1 : bs.length <= 1048576) (hb2 : ∀ d ∈ bs, d.2.length <= 1048576) (zs : List Int) (ps : List UInt8) (hps : ps.length <= 1048576) (dv bkv pv : Value) (zp : Option Addr) (zc : Nat) (w : World) (hD : DV w (· < w.heap.size) dv ds) (hK : BV w (· < w.heap.size) bkv bs) (hz : Is w zp zs) (hp : BS w (· < w.heap.size) pv ps) :
    Calls Tryz.prog 4 #[.agg #[dv, bkv], .agg #[.slice zp zs.length zc, pv]] w fun e w' => e = .returned (.bool true) /\ Below w.heap.size w w' := by
  obtain ⟨q1, d1, rfl, _, _⟩ := id hD
  obtain ⟨q2, d2, rfl, _⟩ := id hK
  obtain ⟨q3, d3, rfl⟩ := hp.ex
  obtain ⟨W0, hW0⟩ : ∃ W0, (w.alloc (.cells #[.slice q1 ds.length d1, .slice q2 bs.length d2] 47)).alloc (.cells #[.slice zp zs.length zc, .slice q3 ps.length d3] 50) = W0 := ⟨_, rfl⟩
  have hB0 : Below w.heap.size w W0 := by rw [<- hW0]; exact ((Below.refl _ w).alloc (Nat.le_refl _) _).alloc (by simp) _
  have hu0 : W0.heap[w.heap.size]? = some (.cells #[.slice q1 ds.length d1, .slice q2 bs.length d2] 47 (0, 0)) := by rw [<- hW0]; exact heap_alloc2_old w _ _
  have hu1 : W0.heap[w.heap.size + 1]? = some (.cells [.slice zp zs.length zc, .slice q3 ps.length d3].toArray 50 (0, 0)) := by rw [<- hW0]; exact heap_alloc2_new w _ _
  have k1 := Y.own_prog ds bs _ _ _ W0 (fun i hi => Nat.lt_of_lt_of_le hi hB0.size) (hD.below hB0 fun _ h => h) (hK.below hB0 fun _ h => h) hd1 (fun d hd => (hdd d hd).1) hb1 hb2
  have HL := hid (fun (w' : World) (b : Below W0.heap.size W0 w') => show w'.heap[w.heap.size + 1]? = some (.cells [.slice zp zs.length zc, .slice q3 ps.length d3].toArray 50 (0, 0)) /\ Is w' zp zs /\ BS w' (· < w.heap.size) (.slice q3 ps.length d3) ps from
    ⟨(b.block _ (S.lt_of hu1)).trans hu1, (hz.below rfl hB0).below rfl b, (hp.below hB0 fun _ h => h).kept (fun i hi => b.block i (Nat.lt_of_lt_of_le hi hB0.size)) fun _ h => h⟩)
  have HW0 := hid hW0
  have HB0 := hid hB0
  have HH := hid (And.intro hdd (And.intro hb1 hps))
  have na := awake_any
  clear hW0 hB0 hu1 hD hK hz hp hdd hd1 hb2 hb1
  go_enter Tryz.func4, Tryz.ntmps4
  go_upto_region 1 with fail
  rw [HW0.out]
  go_wp2_with (refine wpList_load_row rfl 47 _ rfl w.heap.size rfl 47 _ (0, 0) _ hu0 Tryz.underlying47 rfl (by exact sizeG) ?_)
  refine k1.mono ?_
  rintro e w1 ⟨dv', bp, bc, rfl, hD1, hK1, hN1, h1⟩
  obtain ⟨p1', e1', rfl, _, _⟩ := id hD1
  have HB1 := hid h1
  clear k1 hu0
  by_cases hm : newE ds bs = 0
  case neg =>
    have k2 := new_no ds bs (fun d hd => (HH.out.1 d hd).2.1) HH.out.2.1 _ bp bc _ w1 (fun _ h => h.2) hD1 hK1 hm
    have e2 : (newE ds bs != 0) = true := by simpa using hm
    generalize newE ds bs = E at *
    go_wp2_with fail
    refine k2.mono ?_
    rintro e w2 ⟨rfl, h2⟩
    have HB2 := hid (trB HB1.out h2 HB1.out.size)
    clear k2 h2 hD1 hK1 hN1 h1
    go_wp2_with (first | (go_at_call 13; refine (na _).mono ?_; rintro e we ⟨rfl, he⟩) | (go_at_call 9; refine (num_any _ _).mono ?_; rintro e wn ⟨rfl, hwn⟩; rw [hwn]; clear hwn wn))
    go_ret
    exact ⟨rfl, trB HB0.out (trB HB2.out he HB2.out.size) HB0.out.size⟩
  have k2 := new_yes ds bs (fun d hd => (HH.out.1 d hd).2.1) HH.out.2.1 _ bp bc _ w1 (fun _ h => h.2) hD1 hK1 hm (fun d hd => (HH.out.1 d hd).2.2) (fun d hd => (HH.out.1 d hd).1) hN1
  go_wp2_with fail
  refine k2.mono ?_
  rintro e w2 ⟨g, bd, br, bm, bq, c, F, U, rfl, hM, hF, h2⟩
  have HB2 := hid (trB HB1.out h2 HB1.out.size)
  have HM := hid hM
  have HF := hid hF
  have h01 : W0.heap.size <= w1.heap.size := HB1.out.size
  clear k2 h2 hM hF hD1 hK1 hN1 h1
  go_wp2_with (first | (go_at_call 13; refine (na _).mono ?_; rintro e w3 ⟨rfl, h3⟩) | (go_at_call 9; refine (num_any _ _).mono ?_; rintro e wn ⟨rfl, hwn⟩; rw [hwn]; clear hwn wn))
  have HI := hid (XI.first HM.out HF.out h01 HB2.out h3)
  generalize hL0 : w3.heap.size = L0 at *
  generalize w3.alloc (.cells #[.int .i64 0, .int .i64 0, .int .i64 0, .int .i64 0, .int .i64 0, .slice none 0 0, .slice none 0 0] 28) = w4 at *
  clear HM HF HB2 HB1 h3 na hm h01
  go_loopw [8, 9] (fun ov i wr => ∃ (k : Nat) (bq' c' : Nat) (F' : Nat -> Prop) (u : VS) (over : Bool) (row : Array Value), k <= ps.length /\ i = .int .i64 (k : Int) /\ ov = .bool over /\ XI W0 wr g bd br bm bq' c' F' U L0 u over row) (fun _ i _ => ps.length - (intOf i).toNat)
  case atStart => exact ⟨0, bq, c, F, born ds bs, false, _, by omega, rfl, rfl, HI.out⟩
  case round =>
    clear HI hL0
    obtain ⟨k, bq', c', F', u, over, row, hk, rfl, rfl, I⟩ := hrel
    have w1' : wrap64 ((k : Int) + 1) = ((k + 1 : Nat) : Int) := by have := HH.out.2.2; simp [wrap64]; omega
    obtain ⟨hlb, hzs, hpd⟩ := HL.out wr I.bel
    have l1 := S.cell_of wr _ 1 _ _ _ hlb rfl
    have HII := hid I
    by_cases hk1 : k < ps.length
    case neg =>
      as_aux_lemma =>
        have d1 : ¬ (k : Int) < ps.length := fun h => hk1 (Int.ofNat_lt.mp h)
        have hfin := trB HB0.out I.bel HB0.out.size
        clear hzs hpd hlb I
        go_wp2
        go_ret
        exact ⟨rfl, hfin⟩
    have d1 : (k : Int) < ps.length := Int.ofNat_lt.mpr hk1
    have kb := budget_any zs zp q3 zc ps.length d3 k wr hzs
    generalize bud zs k = BB at *
    obtain ⟨B, more⟩ := BB
    simp only at kb
    have HZ := hid (And.intro hzs hpd)
    clear I hzs hpd
    go_wp2_with (refine wpList_load_row rfl 50 _ rfl (w.heap.size + 1) rfl 50 _ (0, 0) _ hlb Tryz.underlying50 rfl (by exact sizeL) ?_)
    refine kb.mono ?_
    rintro e wb ⟨rfl, hbb⟩
    have I := HII.out.idle hbb
    have HII := hid I
    obtain ⟨hlb, hzs, hpd⟩ := HL.out wb I.bel
    have l1 := S.cell_of wb _ 1 _ _ _ hlb rfl
    clear kb HZ
    cases more with
    | false =>
      as_aux_lemma =>
        have hfin := trB HB0.out I.bel HB0.out.size
        clear hzs hpd hlb I
        go_wp2
        go_ret
        exact ⟨rfl, hfin⟩
    | true =>
      have hx := List.getElem?_eq_getElem hk1
      generalize ps[k] = x at *
      rcases hpd with ⟨_, e⟩ | ⟨pb, po, pc', e, hpb, hpc⟩
      · rw [e] at hk1; exact absurd hk1 (by simp)
      injection e with e5 e6 e7
      subst e5 e7
      have ex0 := hpc k x hx
      by_cases hbs : B < 4 \/ 16384 < B
      · as_aux_lemma =>
          have k3 := frame_bud g (x.toNat : Int) B hbs wb
          have r14 : (decide (B < 4) = true) \/ (decide (B < 4) = false /\ decide (16384 < B) = true) := by
            by_cases q : B < 4
            · exact .inl (decide_eq_true q)
            · exact .inr ⟨decide_eq_false q, decide_eq_true (by omega)⟩
          clear hx hbs I hzs hlb hpc hpb
          go_wp2_with fail
          refine k3.mono ?_
          rintro e w5 ⟨rfl, h5⟩
          obtain ⟨z6, r6, b6⟩ := mkRow w5 #[.int .i64 0, .int .i64 0, .int .i64 0, .int .i64 0, .int .i64 0, .slice none 0 0, .slice none 0 0] #[.int .i64 0, .int .i64 0, .int .i64 0, .int .i64 0, .int .i64 0, .slice none 0 0, .slice none 0 0] 28
          have I6 := hid (HII.out.idle (trB h5 b6 h5.size))
          have x2 := S.cell_of _ _ 2 [.int .i64 0, .int .i64 0, .int .i64 0, .int .i64 0, .int .i64 0, .slice none 0 0, .slice none 0 0] _ _ r6 rfl
          have x5 := S.cell_of _ _ 5 [.int .i64 0, .int .i64 0, .int .i64 0, .int .i64 0, .int .i64 0, .slice none 0 0, .slice none 0 0] _ _ r6 rfl
          clear k3 h5 b6 r6 ex0 l1
          rcases r14 with q14 | ⟨q14, q15⟩
          · go_wp2_with (first | (refine wpList_store_row rfl 28 _ _ rfl w5.heap.size _ rfl rfl 28 z7 z6 (by exact sizeO) (by rfl) (by simp [Value.oneCell']) ?_) | (go_at_call 9; refine (num_any _ _).mono ?_; rintro e wn ⟨rfl, hwn⟩; rw [hwn]; clear hwn wn))
            go_roundw
            case rel =>
              first
                | exact ⟨k + 1, _, _, _, _, _, _, hk1, (by first | rfl | rw [w1']), rfl, I6.out⟩
                | ((repeat apply Exists.intro); refine ⟨⟨k + 1, _, _, _, _, _, _, hk1, ?_, rfl, I6.out⟩, rfl⟩; first | rfl | rw [w1'])
            case measure => exact msr2 ps.length _ _ k (by first | rfl | rw [w1']) rfl hk1
          · go_wp2_with (first | (refine wpList_store_row rfl 28 _ _ rfl w5.heap.size _ rfl rfl 28 z7 z6 (by exact sizeO) (by rfl) (by simp [Value.oneCell']) ?_) | (go_at_call 9; refine (num_any _ _).mono ?_; rintro e wn ⟨rfl, hwn⟩; rw [hwn]; clear hwn wn))
            go_roundw
            case rel =>
              first
                | exact ⟨k + 1, _, _, _, _, _, _, hk1, (by first | rfl | rw [w1']), rfl, I6.out⟩
                | ((repeat apply Exists.intro); refine ⟨⟨k + 1, _, _, _, _, _, _, hk1, ?_, rfl, I6.out⟩, rfl⟩; first | rfl | rw [w1'])
            case measure => exact msr2 ps.length _ _ k (by first | rfl | rw [w1']) rfl hk1
      have hb4 : ¬ B < 4 /\ ¬ 16384 < B := ⟨by omega, by omega⟩
      have b0 : decide (B < 4) = false := decide_eq_false (by omega)
      have b1 : decide (16384 < B) = false := decide_eq_false (by omega)
      have k3 := frame_lo x B (by omega) (by omega) g bd br bm bq' c' F' U u wb I.ca I.mv
      have hsU := frame_st u (x.toNat : Int) B I.st
      have hcU := frame_calls u (x.toNat : Int) B I.ca
      have hidle := frame_idle u (x.toNat : Int) B
      obtain ⟨n0, n1, n2⟩ := frame_nums u (x.toNat : Int) B (by omega)
      obtain ⟨r, hfr⟩ : ∃ r, r = frame u (x.toNat : Int) B := ⟨_, rfl⟩
      rw [<- hfr] at k3 hsU hcU hidle n0 n1 n2
      obtain ⟨uu, n, s⟩ := r
      simp only at hsU hcU n0 n1 n2
      unfold OutV at k3
      simp only at k3
      have HIDLE := hid hidle
      have HSU := hid (And.intro hsU hcU)
      have HNN := hid (And.intro n0 (And.intro n1 (And.intro n2 (And.intro (show B <= 16384 by omega) hk1))))
      have wB : wrap64 (s + (B - s)) = B := by simp [wrap64]; omega
      have wB2 : s + (B - s) = B := by omega
      have f1 : decide (s < n) = false := decide_eq_false (by omega)
      have f2 : decide (B - s < 0) = false := decide_eq_false (by omega)
      have HFF := hid (And.intro wB (And.intro wB2 (And.intro f1 f2)))
      clear hfr hx hbs I hzs hlb hpc hpb hidle hsU hcU n0 n1 n2 wB wB2 f1 f2
      go_wp2_with fail
      refine k3.mono ?_
      rintro e w1 ⟨p1, c1, p2, c2, rfl, lo, hrw, _, hV⟩
      have hVd := hV.vd
      obtain ⟨bs6, c6, F6, hM6, _, _⟩ := hV.s
      have hscr : uu.m.scr.length = 3072 := hM6.ps.m.wf.scr
      have HRW := hid (show M.Row w1 wb.heap.size (.slice p1 uu.m.scr.length c1) uu.m.scr from S.own_mono hrw hV.l0)
      have HV := hid hVd
      have HBLr := hid HII.out.blk
      have HBL := hid (HII.out.blk1 hVd)
      have hVs := hVd.t.size
      have HSC := hid hscr
      rw [hscr]
      obtain ⟨z3, r3, b3⟩ := mkRow w1 #[.int .i64 0, .int .i64 0, .int .i64 0, .int .i64 0, .int .i64 0, .slice none 0 0, .slice none 0 0] #[.int .i64 uu.st, .int .i64 uu.fa, .int .i64 n, .int .i64 s, .int .i64 (B - s), .slice p1 3072 c1, .slice p2 uu.m.tones.length c2] 28
      have HR3 := hid r3
      have HB3 := hid b3
      have HM6 := hid (hM6.below b3)
      clear b3 r3 k3 hrw hV hVd hM6 l1 ex0 hscr
      go_upto_region 14 with (refine wpList_store_row rfl 28 _ _ rfl w1.heap.size _ rfl rfl 28 z7 z3 (by exact sizeO) (by rfl) (by simp [Value.oneCell']) ?_)
      generalize hW3 : (w1.alloc (.cells #[.int .i64 0, .int .i64 0, .int .i64 0, .int .i64 0, .int .i64 0, .slice none 0 0, .slice none 0 0] 28)).setRow w1.heap.size #[.int .i64 uu.st, .int .i64 uu.fa, .int .i64 n, .int .i64 s, .int .i64 (B - s), .slice p1 3072 c1, .slice p2 uu.m.tones.length c2] = W3 at *
      have HB3W := hid (hW3 ▸ HB3.out : Below w1.heap.size w1 W3)
      clear z3 hW3
      obtain ⟨pa, pb', co, ok, HNX, k4⟩ := next_all W3 HM6.out HSU.out.2
      go_wp2_with fail
      refine k4.mono ?_
      rintro e w5 ⟨rfl, h5⟩
      obtain ⟨W5, hW5⟩ : ∃ W5, w5.alloc (.cells #[.int .i64 pa, .int .i64 pb'] 33) = W5 := ⟨_, rfl⟩
      have b5 := P.bel_alloc w5 (.cells #[.int .i64 pa, .int .i64 pb'] 33)
      have z5 := heap_alloc_new w5 (.cells #[.int .i64 pa, .int .i64 pb'] 33)
      rw [hW5] at b5 z5
      have h35 := trB h5 b5 h5.size
      have HB5 := hid (trB HB3W.out h35 HB3W.out.size)
      have HR5 := hid ((h35.block _ (S.lt_of HR3.out)).trans HR3.out)
      have HY := hid z5
      have HW5 := hid hW5
      clear k4 h5 b5 z5 h35 hW5
      go_upto_region 18 with fail
      rw [HW5.out]
      try simp only [Act.put, List.setIfInBounds_toArray, List.set_cons_zero, List.set_cons_succ]
      go_cut [147] (fun sx wc => sx = .bool false /\ wc = W5)
      case first =>
        as_aux_lemma =>
          have x0 := S.cell_of _ _ 0 [.int .i64 uu.st, .int .i64 uu.fa, .int .i64 n, .int .i64 s, .int .i64 (B - s), .slice p1 3072 c1, .slice p2 uu.m.tones.length c2] _ _ HR5.out rfl
          have x2 := S.cell_of _ _ 2 [.int .i64 uu.st, .int .i64 uu.fa, .int .i64 n, .int .i64 s, .int .i64 (B - s), .slice p1 3072 c1, .slice p2 uu.m.tones.length c2] _ _ HR5.out rfl
          have x3 := S.cell_of _ _ 3 [.int .i64 uu.st, .int .i64 uu.fa, .int .i64 n, .int .i64 s, .int .i64 (B - s), .slice p1 3072 c1, .slice p2 uu.m.tones.length c2] _ _ HR5.out rfl
          have x4 := S.cell_of _ _ 4 [.int .i64 uu.st, .int .i64 uu.fa, .int .i64 n, .int .i64 s, .int .i64 (B - s), .slice p1 3072 c1, .slice p2 uu.m.tones.length c2] _ _ HR5.out rfl
          have x5 := S.cell_of _ _ 5 [.int .i64 uu.st, .int .i64 uu.fa, .int .i64 n, .int .i64 s, .int .i64 (B - s), .slice p1 3072 c1, .slice p2 uu.m.tones.length c2] _ _ HR5.out rfl
          have y0 := S.cell_of W5 _ 0 [.int .i64 pa, .int .i64 pb'] _ _ HY.out rfl
          have y1 := S.cell_of W5 _ 1 [.int .i64 pa, .int .i64 pb'] _ _ HY.out rfl
          obtain ⟨wB, wB2, f1, f2⟩ := HFF.out
          by_cases q : uu.st = 1
          · obtain ⟨rfl, c1', c4'⟩ := HNX.out.1 q
            have e1 : (uu.st == 1) = true := by simpa using q
            have g1 : decide (co < 1) = false := decide_eq_false (by omega)
            have g2 : decide (4 < co) = false := decide_eq_false (by omega)
            clear b0 b1
            go_wp2_with (go_at_call 9; refine (num_any _ _).mono ?_; rintro e wn ⟨rfl, hwn⟩; rw [hwn]; clear hwn wn)
            go_meet
            case rel => exact ⟨rfl, rfl⟩
          · obtain ⟨rfl, rfl, rfl, rfl⟩ := HNX.out.2 q
            have e1 : (uu.st == 1) = false := by simpa using q
            have np := neq_pos0
            clear b0 b1
            go_wp2_with (go_at_call 9; refine (num_any _ _).mono ?_; rintro e wn ⟨rfl, hwn⟩; rw [hwn]; clear hwn wn)
            go_meet
            case rel => exact ⟨rfl, rfl⟩
      case rest =>
      obtain ⟨hc1, hc2⟩ := hcut
      subst hc1 hc2
      go_upto_region 20 with fail
      try simp only [Act.put, List.setIfInBounds_toArray, List.set_cons_zero, List.set_cons_succ]
      go_cut [154] (fun sx wx => sx = .bool false /\ wx = wc)
      case first =>
        as_aux_lemma =>
          have x0 := S.cell_of _ _ 0 [.int .i64 uu.st, .int .i64 uu.fa, .int .i64 n, .int .i64 s, .int .i64 (B - s), .slice p1 3072 c1, .slice p2 uu.m.tones.length c2] _ _ HR5.out rfl
          have x1 := S.cell_of _ _ 1 [.int .i64 uu.st, .int .i64 uu.fa, .int .i64 n, .int .i64 s, .int .i64 (B - s), .slice p1 3072 c1, .slice p2 uu.m.tones.length c2] _ _ HR5.out rfl
          rcases HSU.out.1 with ⟨hst, hfa⟩ | ⟨hst, hfa⟩ | ⟨hst, hfa⟩
          · rw [hst] at x0
            rw [hfa] at x1
            go_wp2
            go_meet
            case rel => exact ⟨rfl, rfl⟩
          · rw [hst] at x0
            rw [hfa] at x1
            go_wp2
            go_meet
            case rel => exact ⟨rfl, rfl⟩
          · rw [hst] at x0
            have g3 : (uu.fa == 0) = false := by simpa using hfa
            go_wp2
            go_meet
            case rel => exact ⟨rfl, rfl⟩
      case rest =>
      obtain ⟨hc1, hc2⟩ := hcut
      subst hc1 hc2
      rcases hov : over with _ | _
      · skip
        go_upto_region 22 with fail
        try simp only [Act.put, List.setIfInBounds_toArray, List.set_cons_zero, List.set_cons_succ]
        go_cut [189] (fun sx wx => sx = .bool false /\ wx = wc)
        case first =>
          as_aux_lemma =>
            go_wp2
            go_meet
            case rel => exact ⟨rfl, rfl⟩
        case rest =>
        obtain ⟨hc1, hc2⟩ := hcut
        subst hc1 hc2
        as_aux_lemma =>
          have rL := (HB5.out.block L0 (Nat.lt_of_lt_of_le (S.lt_of HBLr.out) hVs)).trans HBL.out
          have IN := HII.out.next ⟨uu, n, s⟩ B HV.out HSU.out.1 HSU.out.2 p1 p2 c1 c2 HRW.out HB5.out
          simp only [HSC.out] at IN
          have HIN := hid IN
          have hneL : w1.heap.size ≠ L0 := by have := S.lt_of HBLr.out; omega
          have x0 := S.cell_of (wc.setRow L0 #[.int .i64 uu.st, .int .i64 uu.fa, .int .i64 n, .int .i64 s, .int .i64 (B - s), .slice p1 3072 c1, .slice p2 uu.m.tones.length c2]) w1.heap.size 0 [.int .i64 uu.st, .int .i64 uu.fa, .int .i64 n, .int .i64 s, .int .i64 (B - s), .slice p1 3072 c1, .slice p2 uu.m.tones.length c2] _ _ ((setRow_other wc L0 w1.heap.size _ hneL).trans HR5.out) rfl
          have rO := HR5.out
          have hrsz := HII.out.sz
          clear IN
          go_wp2_with (first
            | (refine wpList_load_row rfl 28 _ rfl w1.heap.size rfl 28 _ (0, 0) _ rO Tryz.underlying28 rfl (by exact sizeO) ?_)
            | (refine wpList_store_row rfl 28 _ _ rfl L0 _ rfl rfl 28 row rL (by exact sizeO) (by exact hrsz) (by simp [Value.oneCell']) ?_))
          obtain ⟨bs7, c7, F7, hI7⟩ := HIN.out
          go_roundw
          case rel => exact ⟨k + 1, _, _, _, _, _, _, HNN.out.2.2.2.2, (by first | rfl | rw [w1']), rfl, hI7⟩
          case measure => exact msr2 ps.length _ _ k (by first | rfl | rw [w1']) rfl HNN.out.2.2.2.2
      · skip
        go_upto_region 22 with fail
        try simp only [Act.put, List.setIfInBounds_toArray, List.set_cons_zero, List.set_cons_succ]
        go_cut [189] (fun sx wx => sx = .bool false /\ wx = wc)
        case first =>
          as_aux_lemma =>
            have x0 := S.cell_of _ _ 0 [.int .i64 uu.st, .int .i64 uu.fa, .int .i64 n, .int .i64 s, .int .i64 (B - s), .slice p1 3072 c1, .slice p2 uu.m.tones.length c2] _ _ HR5.out rfl
            have x1 := S.cell_of _ _ 1 [.int .i64 uu.st, .int .i64 uu.fa, .int .i64 n, .int .i64 s, .int .i64 (B - s), .slice p1 3072 c1, .slice p2 uu.m.tones.length c2] _ _ HR5.out rfl
            have x2 := S.cell_of _ _ 2 [.int .i64 uu.st, .int .i64 uu.fa, .int .i64 n, .int .i64 s, .int .i64 (B - s), .slice p1 3072 c1, .slice p2 uu.m.tones.length c2] _ _ HR5.out rfl
            have x5 := S.cell_of _ _ 5 [.int .i64 uu.st, .int .i64 uu.fa, .int .i64 n, .int .i64 s, .int .i64 (B - s), .slice p1 3072 c1, .slice p2 uu.m.tones.length c2] _ _ HR5.out rfl
            have x6 := S.cell_of _ _ 6 [.int .i64 uu.st, .int .i64 uu.fa, .int .i64 n, .int .i64 s, .int .i64 (B - s), .slice p1 3072 c1, .slice p2 uu.m.tones.length c2] _ _ HR5.out rfl
            obtain ⟨hne, po', co', a2, a3, a4, a6, hrow, hrw0, hnf⟩ := HII.out.ov hov
            obtain ⟨hu, hn0, hs0⟩ : uu = { u with m := M.bg u.m (x.toNat : Int) } /\ n = 0 /\ s = 0 := by have := HIDLE.out hne; injection this with q1 q2 q3; exact ⟨q1, q2, q3⟩
            have hu1 : u.st = uu.st := by rw [hu]
            have hu2 : u.fa = uu.fa := by rw [hu]
            have hu3 : u.m.scr = uu.m.scr := by rw [hu]; rfl
            have hu4 : uu.m.tones.length = 0 := by rw [hu]; rfl
            have g1 : (n != 0) = false := by rw [hn0]; rfl
            have g2 : ((uu.m.tones.length : Int) != 0) = false := by rw [hu4]; rfl
            rw [hu1, hu2, hu3, HSC.out] at hrow
            rw [hu3] at hrw0 hnf
            have HOV := hid (HII.out.kept HV.out hrw0 hnf)
            have hL5 := (HB5.out.block L0 (Nat.lt_of_lt_of_le (S.lt_of HBLr.out) hVs)).trans HBL.out
            rw [hrow] at hL5
            have cv1 := Sl_conv ((HRW.out.below HB5.out).sl) (by rw [HSC.out]; exact ml3072)
            have cv2 := Sl_conv (HOV.out.below HB5.out).sl (by rw [HSC.out]; exact ml3072)
            rw [HSC.out] at cv1 cv2
            have o0 := S.cell_of _ _ 0 [.int .i64 uu.st, .int .i64 uu.fa, a2, a3, a4, .slice po' 3072 co', a6] _ _ hL5 rfl
            have o1 := S.cell_of _ _ 1 [.int .i64 uu.st, .int .i64 uu.fa, a2, a3, a4, .slice po' 3072 co', a6] _ _ hL5 rfl
            have o5 := S.cell_of _ _ 5 [.int .i64 uu.st, .int .i64 uu.fa, a2, a3, a4, .slice po' 3072 co', a6] _ _ hL5 rfl
            generalize hss : (⟨uu.m.scr.toArray⟩ : ByteArray) = ss at *
            clear hrow hrw0 hnf hu hu1 hu2 hu3 hu4 hn0 hs0 hL5 hss
            go_wp2
            go_meet
            case rel => exact ⟨rfl, rfl⟩
        case rest =>
        obtain ⟨hc1, hc2⟩ := hcut
        subst hc1 hc2
        as_aux_lemma =>
          have rL := (HB5.out.block L0 (Nat.lt_of_lt_of_le (S.lt_of HBLr.out) hVs)).trans HBL.out
          have IN := HII.out.next ⟨uu, n, s⟩ B HV.out HSU.out.1 HSU.out.2 p1 p2 c1 c2 HRW.out HB5.out
          simp only [HSC.out] at IN
          have HIN := hid IN
          have hneL : w1.heap.size ≠ L0 := by have := S.lt_of HBLr.out; omega
          have x0 := S.cell_of (wc.setRow L0 #[.int .i64 uu.st, .int .i64 uu.fa, .int .i64 n, .int .i64 s, .int .i64 (B - s), .slice p1 3072 c1, .slice p2 uu.m.tones.length c2]) w1.heap.size 0 [.int .i64 uu.st, .int .i64 uu.fa, .int .i64 n, .int .i64 s, .int .i64 (B - s), .slice p1 3072 c1, .slice p2 uu.m.tones.length c2] _ _ ((setRow_other wc L0 w1.heap.size _ hneL).trans HR5.out) rfl
          have rO := HR5.out
          have hrsz := HII.out.sz
          clear IN
          go_wp2_with (first
            | (refine wpList_load_row rfl 28 _ rfl w1.heap.size rfl 28 _ (0, 0) _ rO Tryz.underlying28 rfl (by exact sizeO) ?_)
            | (refine wpList_store_row rfl 28 _ _ rfl L0 _ rfl rfl 28 row rL (by exact sizeO) (by exact hrsz) (by simp [Value.oneCell']) ?_))
          obtain ⟨bs7, c7, F7, hI7⟩ := HIN.out
          go_roundw
          case rel => exact ⟨k + 1, _, _, _, _, _, _, HNN.out.2.2.2.2, (by first | rfl | rw [w1']), rfl, hI7⟩
          case measure => exact msr2 ps.length _ _ k (by first | rfl | rw [w1']) rfl HNN.out.2.2.2.2
end Go.Proofs.YtoemoiehjdmheaaGreat.Z
