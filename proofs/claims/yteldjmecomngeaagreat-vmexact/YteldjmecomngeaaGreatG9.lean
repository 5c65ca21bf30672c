import Derived.Test.YteldjmecomngeaaGreatG8
import Derived.Deep.DeepCutAuto
import Derived.Test.YteldjmecomngeaaGreatRows
import Derived.ProofKit
import Derived.OpenShut
import Derived.LaidMore
import Derived.Deep.DeepHandedRow
import Derived.Lib.LaidTab
import Derived.ChangeOld
import Derived.Below
import Derived.WalkKit
import Derived.Deep.Slices
import Derived.Deep.SlicePairs
import Derived.SizedLaws
/-! VmExact. -/
namespace Go.Proofs.YteldjmecomngeaaGreat.V
open Go.RowKit
open Go.Proofs
set_option linter.unusedVariables false
set_option linter.unusedSimpArgs false
set_option maxHeartbeats 40000000
set_option maxRecDepth 100000
theorem ml3072 : 3072 ≤ maxLen := by unfold maxLen; omega
theorem ne0 {n : Int} (h : 1 ≤ n) : (n == 0) = false := by rw [beq_eq_false_iff_ne]; omega
theorem prV_agg (op : Nat) : prV op = .agg (prC op) := by unfold prV prC; split <;> rfl
theorem prC_size (op : Nat) : (prC op).size = 6 := by unfold prC; split <;> rfl
theorem prC_one (op : Nat) : (prC op).all (·.oneCell') = true := by unfold prC; split <;> simp [Value.oneCell']
theorem fresh_mono {n m g bd br bm : Nat} {kv : Value} {F : Nat → Prop} (h : Fresh n g bd br bm kv F) (k : m ≤ n) : Fresh m g bd br bm kv F :=
  ⟨Nat.le_trans k h.g, Nat.le_trans k h.d, Nat.le_trans k h.r, fun i e => Nat.le_trans k (h.k i e), fun i e => Nat.le_trans k (h.f i e)⟩
theorem born_st (c : T.Ct) : St (born c) := .inl ⟨rfl, rfl⟩
theorem XI.first {w w2 w3 : World} {n g bd br bm : Nat} {ku : Value} {F : Nat → Prop} {c : T.Ct} (hM : MV w2 g bd br bm ku F (born c)) (hf : Fresh n g bd br bm ku F) (hn : w.heap.size ≤ n) (hB : Below w.heap.size w w2) (h3 : Below w2.heap.size w2 w3) :
    XI w (w3.alloc (.cells #[.int .i64 0, .int .i64 0, .int .i64 0, .int .i64 0, .int .i64 0, .slice none 0 0, .slice none 0 0] 39)) g bd br bm ku F w3.heap.size (born c) false #[.int .i64 0, .int .i64 0, .int .i64 0, .int .i64 0, .int .i64 0, .slice none 0 0, .slice none 0 0] := by
  have b := P.bel_alloc w3 (.cells #[.int .i64 0, .int .i64 0, .int .i64 0, .int .i64 0, .int .i64 0, .slice none 0 0, .slice none 0 0] 39)
  have b' := trB h3 b h3.size
  have s3 := h3.size
  exact ⟨hM.below b', fresh_mono hf hn, trB hB b' hB.size, Nat.le_trans hB.size s3, by have := hM.lt; omega, by have := hM.lt_d; omega, by have := hM.lt_r; omega, fun f => by have := hM.fb _ f; omega, fun k e => by have := hM.ck k e; omega, heap_alloc_new w3 _, born_st c, rfl, fun h => by cases h⟩
theorem exact_walk (v : Value) (c : T.Ct) (ep : Option Addr) (ec : Nat) (bp : Option Addr) (bc : Nat) (kv : Value) (pp : Option Addr) (pcap : Nat) (ps : List UInt8) (zp : Option Addr) (zc : Nat) (zs : List Int) (w : World) (h : T.IsC w v c ep ec bp bc kv) (hn : ep = none → ec = 0) (hp : M.Sl w (.slice pp ps.length pcap) ps) (hz : Is w zp zs) :
    Calls Tryz.prog 3 #[v, .slice pp ps.length pcap, .slice zp zs.length zc] w fun e w' => e = .returned (.bool true) ∧ Below w.heap.size w w' := by
  have hv := h.val
  obtain ⟨kp, kc, hk, _⟩ := h.code.ex
  subst hk
  subst hv
  have hcvv : T.cv (.slice kp c.code.length kc) c.entry ep c.effs.length ec bp c.banks.length bc = .agg #[.slice kp c.code.length kc, .int .u16 (c.entry : Int), .slice ep c.effs.length ec, .slice bp c.banks.length bc] := rfl
  have hb := P.bel_alloc w (.cells #[.slice kp c.code.length kc, .int .u16 (c.entry : Int), .slice ep c.effs.length ec, .slice bp c.banks.length bc] 27)
  have hzz := heap_alloc_new w (.cells #[.slice kp c.code.length kc, .int .u16 (c.entry : Int), .slice ep c.effs.length ec, .slice bp c.banks.length bc] 27)
  have k1 := ownCart_any _ c ep ec bp bc _ _ (h.below hb) hn
  rw [hcvv] at k1
  unfold T.cv
  have HB := S.hid hb
  have HP := S.hid hp
  have HQ := S.hid hz
  have na := awake_any
  clear h hb hcvv hp hz
  go_enter Tryz.func3, Tryz.ntmps3
  go_wp2_with (refine wpList_load_row rfl 27 _ rfl w.heap.size rfl 27 _ (0, 0) _ hzz Tryz.underlying27 rfl (by exact size27) ?_)
  refine k1.mono ?_
  rintro e w1 ⟨v', ep', ec', bp', bc', kv', rfl, hI, h1⟩
  have HB1 := S.hid (trB HB.out h1 HB.out.size)
  clear k1 h1 hzz
  by_cases hm : T.may c = true
  case neg =>
    have k2 := new_no v' c ep' ec' bp' bc' kv' w1 hI (by simpa using hm)
    go_wp2_with fail
    refine k2.mono ?_
    rintro e w2 ⟨rfl, h2⟩
    have HB2 := S.hid (trB HB1.out h2 HB1.out.size)
    clear k2 h2 hI
    go_wp2_with (first | (go_at_call 11; refine (na _).mono ?_; rintro e we ⟨rfl, he⟩))
    go_ret
    exact ⟨rfl, trB HB2.out he HB2.out.size⟩
  have k2 := new_yes v' c ep' ec' bp' bc' kv' w1 hI hm
  go_wp2_with fail
  refine k2.mono ?_
  rintro e w2 ⟨g, bd, br, bm, ku, F, rfl, hM, hF, h2⟩
  have HB2 := S.hid (trB HB1.out h2 HB1.out.size)
  have HM := S.hid hM
  have HF := S.hid hF
  have h01 : w.heap.size ≤ w1.heap.size := HB1.out.size
  clear k2 h2 hI hM hF
  go_wp2_with (first | (go_at_call 11; refine (na _).mono ?_; rintro e w3 ⟨rfl, h3⟩))
  have HI := S.hid (XI.first HM.out HF.out h01 HB2.out h3)
  generalize hL0 : w3.heap.size = L0 at *
  generalize w3.alloc (.cells #[.int .i64 0, .int .i64 0, .int .i64 0, .int .i64 0, .int .i64 0, .slice none 0 0, .slice none 0 0] 39) = w4 at *
  clear HM HF HB2 HB1 h3 na hm HB h01
  go_loopw [9, 11] (fun ov i wr => ∃ (k : Nat) (F' : Nat → Prop) (u : VS) (over : Bool) (row : Array Value), k ≤ 20 ∧ i = .int .i64 (k : Int) ∧ ov = .bool over ∧ XI w wr g bd br bm ku F' L0 u over row) (fun _ i _ => 20 - (intOf i).toNat)
  case atStart => exact ⟨0, F, born c, false, _, by omega, rfl, rfl, HI.out⟩
  case round =>
    clear HI hL0
    obtain ⟨k, F', u, over, row, hk, rfl, rfl, I⟩ := hrel
    have w1' : wrap64 ((k : Int) + 1) = ((k + 1 : Nat) : Int) := by simp [wrap64]; omega
    by_cases hk1 : k < ps.length
    case neg =>
      have d1 : decide ((k : Int) < (ps.length : Int)) = false := decide_eq_false (by omega)
      have HBe := S.hid I.bel
      clear I HP HQ
      go_wp2
      go_ret
      exact ⟨rfl, HBe.out⟩
    have d1 : decide ((k : Int) < (ps.length : Int)) = true := decide_eq_true (by omega)
    by_cases hk2 : k < zs.length
    case neg =>
      have d2 : decide ((k : Int) < (zs.length : Int)) = false := decide_eq_false (by omega)
      have HBe := S.hid I.bel
      clear I HP HQ
      go_wp2
      go_ret
      exact ⟨rfl, HBe.out⟩
    have d2 : decide ((k : Int) < (zs.length : Int)) = true := decide_eq_true (by omega)
    by_cases hk20 : k < 20
    case neg =>
      have d3 : decide ((k : Int) < 20) = false := decide_eq_false (by omega)
      have HBe := S.hid I.bel
      clear I HP HQ
      go_wp2
      go_ret
      exact ⟨rfl, HBe.out⟩
    have d3 : decide ((k : Int) < 20) = true := decide_eq_true (by omega)
    have i1 : (k : Int) < (ps.length : Int) := by omega
    have i2 : (k : Int) < (zs.length : Int) := by omega
    obtain ⟨zb, zo, rfl, ez⟩ := (HQ.out.below rfl I.bel) k zs[k] (List.getElem?_eq_getElem hk2)
    obtain ⟨pp', cc', epp, hbs⟩ := (HP.out.below I.bel).ex
    cases epp
    obtain ⟨px, hpx, epx⟩ := hbs.at k ps[k] (List.getElem?_eq_getElem hk1)
    subst hpx
    generalize zs[k] = z at *
    generalize ps[k] = pad at *
    have kb := budget_any z wr
    obtain ⟨b0, b1⟩ := bud_r z
    have k3 := frame_any pad (bud z) b0 b1 g bd br bm ku F' u wr I.mv
    have hsU := frame_st u (pad.toNat : Int) (bud z) I.st
    have hrun := frame_run u (pad.toNat : Int) (bud z) b0
    have hidle := frame_idle u (pad.toNat : Int) (bud z)
    have hrr := wk_r (bud z) (bud z).toNat { u with m := M.bg u.m (pad.toNat : Int) } 0 0 (by omega)
    have hfr : wk (bud z).toNat (bud z) { u with m := M.bg u.m (pad.toNat : Int) } 0 0 = frame u (pad.toNat : Int) (bud z) := rfl
    rw [hfr] at hrr
    generalize frame u (pad.toNat : Int) (bud z) = r at *
    generalize bud z = B at *
    obtain ⟨uu, n, s⟩ := r
    simp only [Int.sub_zero] at k3 hsU hrun hrr hidle
    obtain ⟨n0, n1, n2, n3⟩ := hrr
    have f1 : decide (s < 0) = false := decide_eq_false (by omega)
    have f2 : decide (B - s < 0) = false := decide_eq_false (by omega)
    have f3 : wrap64 (s + (B - s)) = B := by rw [show s + (B - s) = B by omega]; simp [wrap64]; omega
    have f4 : decide (n < 0) = false := decide_eq_false (by omega)
    have f5 : decide (s < n) = false := decide_eq_false (by omega)
    have f6 : wrap64 (4 * n) = 4 * n := by simp [wrap64]; omega
    have f7 : decide (4 * n < s) = false := decide_eq_false (by omega)
    unfold OutV at k3
    simp only at k3
    have HII := S.hid I
    have HRUN := S.hid hrun
    have HIDLE := S.hid hidle
    have HSU := S.hid hsU
    clear hfr b0 b1 HP HQ hbs n0 n1 n2 n3 I hrun hidle hsU hk hk1 hk2
    go_wp2_with (first | (go_at_call 12; refine kb.mono ?_; rintro e wb ⟨rfl, rfl⟩))
    refine k3.mono ?_
    rintro e w1 ⟨p1, c1, p2, c2, rfl, hrw, _, hV⟩
    have hscr : uu.m.scr.length = 3072 := hV.s.ps.m.wf.scr
    have HRW := S.hid hrw
    have HV := S.hid hV
    have HBLr := S.hid HII.out.blk
    have HBL := S.hid (HII.out.blk1 hV)
    have hVs := hV.t.size
    have HSC := S.hid hscr
    rw [hscr]
    obtain ⟨z3, r3, b3⟩ := mkRow w1 #[.int .i64 0, .int .i64 0, .int .i64 0, .int .i64 0, .int .i64 0, .slice none 0 0, .slice none 0 0] #[.int .i64 uu.st, .int .i64 uu.fa, .int .i64 n, .int .i64 s, .int .i64 (B - s), .slice p1 3072 c1, .slice p2 uu.m.tones.length c2] 39
    have k4 := state_any g bd br bm ku _ uu _ (hV.s.below b3)
    unfold StV at k4
    have x2 := S.cell_of _ _ 2 [.int .i64 uu.st, .int .i64 uu.fa, .int .i64 n, .int .i64 s, .int .i64 (B - s), .slice p1 3072 c1, .slice p2 uu.m.tones.length c2] _ _ r3 rfl
    have x3 := S.cell_of _ _ 3 [.int .i64 uu.st, .int .i64 uu.fa, .int .i64 n, .int .i64 s, .int .i64 (B - s), .slice p1 3072 c1, .slice p2 uu.m.tones.length c2] _ _ r3 rfl
    have x4 := S.cell_of _ _ 4 [.int .i64 uu.st, .int .i64 uu.fa, .int .i64 n, .int .i64 s, .int .i64 (B - s), .slice p1 3072 c1, .slice p2 uu.m.tones.length c2] _ _ r3 rfl
    have x5 := S.cell_of _ _ 5 [.int .i64 uu.st, .int .i64 uu.fa, .int .i64 n, .int .i64 s, .int .i64 (B - s), .slice p1 3072 c1, .slice p2 uu.m.tones.length c2] _ _ r3 rfl
    have HR3 := S.hid r3
    have HB3 := S.hid b3
    clear b3 r3 k3 kb hrw hV ez epx i1 i2 d1 d2 d3 hscr
    go_wp2_with (refine wpList_store_row rfl 39 _ _ rfl w1.heap.size _ rfl rfl 39 #[.int .i64 0, .int .i64 0, .int .i64 0, .int .i64 0, .int .i64 0, .slice none 0 0, .slice none 0 0] z3 (by exact size39) (by rfl) (by simp [Value.oneCell']) ?_)
    refine k4.mono ?_
    rintro e w3 ⟨q1, d1, q2, d2, rfl, _, _, h3⟩
    obtain ⟨z5, r5, b5⟩ := mkRow w3 #[.int .u16 0, .int .i64 0, .int .i64 0, .slice none 0 0, .slice none 0 0] #[.int .u16 uu.pc, .int .i64 uu.st, .int .i64 uu.fa, .slice q1 uu.D.length d1, .slice q2 uu.R.length d2] 46
    have h35 := trB h3 b5 h3.size
    have HB5 := S.hid (trB HB3.out h35 HB3.out.size)
    have HR5 := S.hid ((h35.block _ (S.lt_of HR3.out)).trans HR3.out)
    have HY := S.hid r5
    clear k4 h3 b5 r5 h35 z3 f1 f2 f3 f4 f5 f6 f7 x2 x3 x4 x5
    go_upto_region 14 with (refine wpList_store_row rfl 46 _ _ rfl w3.heap.size _ rfl rfl 46 #[.int .u16 0, .int .i64 0, .int .i64 0, .slice none 0 0, .slice none 0 0] z5 (by exact size46) (by rfl) (by simp [Value.oneCell']) ?_)
    generalize hW5 : ((w3.alloc (.cells #[.int .u16 0, .int .i64 0, .int .i64 0, .slice none 0 0, .slice none 0 0] 46)).setRow w3.heap.size #[.int .u16 uu.pc, .int .i64 uu.st, .int .i64 uu.fa, .slice q1 uu.D.length d1, .slice q2 uu.R.length d2]) = W5 at *
    try simp only [Act.put, List.setIfInBounds_toArray, List.set_cons_zero, List.set_cons_succ]
    go_cut [156] (fun sx wc => sx = .bool false ∧ wc = W5)
    case first =>
      as_aux_lemma =>
        have x0 := S.cell_of _ _ 0 [.int .i64 uu.st, .int .i64 uu.fa, .int .i64 n, .int .i64 s, .int .i64 (B - s), .slice p1 3072 c1, .slice p2 uu.m.tones.length c2] _ _ HR5.out rfl
        have x1 := S.cell_of _ _ 1 [.int .i64 uu.st, .int .i64 uu.fa, .int .i64 n, .int .i64 s, .int .i64 (B - s), .slice p1 3072 c1, .slice p2 uu.m.tones.length c2] _ _ HR5.out rfl
        have y1 := S.cell_of _ _ 1 [.int .u16 uu.pc, .int .i64 uu.st, .int .i64 uu.fa, .slice q1 uu.D.length d1, .slice q2 uu.R.length d2] _ _ HY.out rfl
        have y2 := S.cell_of _ _ 2 [.int .u16 uu.pc, .int .i64 uu.st, .int .i64 uu.fa, .slice q1 uu.D.length d1, .slice q2 uu.R.length d2] _ _ HY.out rfl
        clear z5
        rcases HSU.out with ⟨hst, hfa⟩ | ⟨hst, hfa⟩ | ⟨hst, hfa⟩
        · rw [hst] at x0 y1
          rw [hfa] at x1 y2
          go_wp2
          go_meet
          case rel => exact ⟨rfl, rfl⟩
        · rw [hst] at x0 y1
          rw [hfa] at x1 y2
          go_wp2
          go_meet
          case rel => exact ⟨rfl, rfl⟩
        · rw [hst] at x0 y1
          have g3 : (uu.fa != 0) = true := by simpa using hfa
          go_wp2
          go_meet
          case rel => exact ⟨rfl, rfl⟩
    case rest =>
      as_aux_lemma =>
        obtain ⟨hc1, hc2⟩ := hcut
        subst hc1 hc2
        rcases hov : over with _ | _
        · skip
          go_upto_region 16 with fail
          try simp only [Act.put, List.setIfInBounds_toArray, List.set_cons_zero, List.set_cons_succ]
          go_cut [191] (fun sx wx => sx = .bool false ∧ wx = wc)
          case first =>
            as_aux_lemma =>
              go_wp2
              go_meet
              case rel => exact ⟨rfl, rfl⟩
          case rest =>
            as_aux_lemma =>
              obtain ⟨hc1, hc2⟩ := hcut
              subst hc1 hc2
              have kl := look_any g bd br bm ku _ uu _ (HV.out.s.below HB5.out)
              rw [prV_agg] at kl
              generalize (look uu).x = lx at *
              generalize (look uu).f = lf at *
              go_wp2_with fail
              refine kl.mono ?_
              rintro e w5 ⟨rfl, h5⟩
              obtain ⟨z6, r6, b6⟩ := mkRow w5 #[.int .i64 0, .string { data := #[] }, .int .i64 0, .int .i64 0, .int .i64 0, .bool false] (prC (look uu).op) 49
              have h56 := trB h5 b6 h5.size
              have HB6 := S.hid (trB HB5.out h56 HB5.out.size)
              have rO := (h56.block _ (S.lt_of HR5.out)).trans HR5.out
              have x0 := S.cell_of _ _ 0 [.int .i64 uu.st, .int .i64 uu.fa, .int .i64 n, .int .i64 s, .int .i64 (B - s), .slice p1 3072 c1, .slice p2 uu.m.tones.length c2] _ _ rO rfl
              have x2 := S.cell_of _ _ 2 [.int .i64 uu.st, .int .i64 uu.fa, .int .i64 n, .int .i64 s, .int .i64 (B - s), .slice p1 3072 c1, .slice p2 uu.m.tones.length c2] _ _ rO rfl
              have x4 := S.cell_of _ _ 4 [.int .i64 uu.st, .int .i64 uu.fa, .int .i64 n, .int .i64 s, .int .i64 (B - s), .slice p1 3072 c1, .slice p2 uu.m.tones.length c2] _ _ rO rfl
              have IN := HII.out.next ⟨uu, n, s⟩ B HV.out HSU.out p1 p2 c1 c2 HRW.out HB6.out
              simp only [HSC.out] at IN
              have rL := (HB6.out.block L0 (Nat.lt_of_lt_of_le (S.lt_of HBLr.out) hVs)).trans HBL.out
              have HIN := S.hid IN
              have hone : (prC (look uu).op).all (·.oneCell') = true := prC_one _
              have hsz6 : (#[.int .i64 0, .string { data := #[] }, .int .i64 0, .int .i64 0, .int .i64 0, .bool false] : Array Value).size = (prC (look uu).op).size := (prC_size _).symm
              have hsi6 : (Tryz.prog.info? 49).map (·.size) = some (prC (look uu).op).size := by rw [prC_size]; exact P.sizeR
              have HEP : Hid (uu.st ≠ 1 → prC (look uu).op = #[.int .i64 0, .string { data := #[] }, .int .i64 0, .int .i64 0, .int .i64 0, .bool false]) := S.hid fun hne => by
                have : (look uu).op = 0 := by unfold look; rw [if_neg hne]
                rw [this]; rfl
              clear kl h5 b6 h56 IN x0 x2 x4
              generalize prC (look uu).op = pc6 at *
              go_upto_region 19 with (refine wpList_store_row rfl 49 _ _ rfl w5.heap.size _ rfl rfl 49 #[.int .i64 0, .string { data := #[] }, .int .i64 0, .int .i64 0, .int .i64 0, .bool false] z6 hsi6 hsz6 hone ?_)
              generalize hW6 : (w5.alloc (.cells #[.int .i64 0, .string { data := #[] }, .int .i64 0, .int .i64 0, .int .i64 0, .bool false] 49)).setRow w5.heap.size pc6 = W6 at *
              try simp only [Act.put, List.setIfInBounds_toArray, List.set_cons_zero, List.set_cons_succ]
              go_cut [220] (fun sx wc => sx = .bool false ∧ wc = W6)
              case first =>
                as_aux_lemma =>
                  have x0 := S.cell_of _ _ 0 [.int .i64 uu.st, .int .i64 uu.fa, .int .i64 n, .int .i64 s, .int .i64 (B - s), .slice p1 3072 c1, .slice p2 uu.m.tones.length c2] _ _ rO rfl
                  have x2 := S.cell_of _ _ 2 [.int .i64 uu.st, .int .i64 uu.fa, .int .i64 n, .int .i64 s, .int .i64 (B - s), .slice p1 3072 c1, .slice p2 uu.m.tones.length c2] _ _ rO rfl
                  have x4 := S.cell_of _ _ 4 [.int .i64 uu.st, .int .i64 uu.fa, .int .i64 n, .int .i64 s, .int .i64 (B - s), .slice p1 3072 c1, .slice p2 uu.m.tones.length c2] _ _ rO rfl
                  clear hone hsz6 hsi6 z6
                  rcases HSU.out with ⟨hst, hfa⟩ | ⟨hst, hfa⟩ | ⟨hst, hfa⟩
                  · have g4 : (n == 0) = false := ne0 (HRUN.out hst)
                    rw [hst] at x0
                    by_cases q4 : 4 ≤ B - s
                    · have g5 : decide (4 ≤ B - s) = true := decide_eq_true q4
                      go_wp2
                      go_meet
                      case rel => exact ⟨rfl, rfl⟩
                    · have g5 : decide (4 ≤ B - s) = false := decide_eq_false q4
                      go_wp2
                      go_meet
                      case rel => exact ⟨rfl, rfl⟩
                  · have r6' := r6
                    rw [HEP.out (by rw [hst]; decide)] at r6'
                    have m0 := S.cell_of _ _ 0 [.int .i64 0, .string { data := #[] }, .int .i64 0, .int .i64 0, .int .i64 0, .bool false] _ _ r6' rfl
                    have m1 := S.cell_of _ _ 1 [.int .i64 0, .string { data := #[] }, .int .i64 0, .int .i64 0, .int .i64 0, .bool false] _ _ r6' rfl
                    have m2 := S.cell_of _ _ 2 [.int .i64 0, .string { data := #[] }, .int .i64 0, .int .i64 0, .int .i64 0, .bool false] _ _ r6' rfl
                    have m3 := S.cell_of _ _ 3 [.int .i64 0, .string { data := #[] }, .int .i64 0, .int .i64 0, .int .i64 0, .bool false] _ _ r6' rfl
                    have m4 := S.cell_of _ _ 4 [.int .i64 0, .string { data := #[] }, .int .i64 0, .int .i64 0, .int .i64 0, .bool false] _ _ r6' rfl
                    have m5 := S.cell_of _ _ 5 [.int .i64 0, .string { data := #[] }, .int .i64 0, .int .i64 0, .int .i64 0, .bool false] _ _ r6' rfl
                    have nq := fun W => neq_prim W 0 { data := #[] } 0 0 0 false
                    rw [hst] at x0
                    clear r6 r6'
                    go_wp2
                    go_meet
                    case rel => exact ⟨rfl, rfl⟩
                  · have r6' := r6
                    rw [HEP.out (by rw [hst]; decide)] at r6'
                    have m0 := S.cell_of _ _ 0 [.int .i64 0, .string { data := #[] }, .int .i64 0, .int .i64 0, .int .i64 0, .bool false] _ _ r6' rfl
                    have m1 := S.cell_of _ _ 1 [.int .i64 0, .string { data := #[] }, .int .i64 0, .int .i64 0, .int .i64 0, .bool false] _ _ r6' rfl
                    have m2 := S.cell_of _ _ 2 [.int .i64 0, .string { data := #[] }, .int .i64 0, .int .i64 0, .int .i64 0, .bool false] _ _ r6' rfl
                    have m3 := S.cell_of _ _ 3 [.int .i64 0, .string { data := #[] }, .int .i64 0, .int .i64 0, .int .i64 0, .bool false] _ _ r6' rfl
                    have m4 := S.cell_of _ _ 4 [.int .i64 0, .string { data := #[] }, .int .i64 0, .int .i64 0, .int .i64 0, .bool false] _ _ r6' rfl
                    have m5 := S.cell_of _ _ 5 [.int .i64 0, .string { data := #[] }, .int .i64 0, .int .i64 0, .int .i64 0, .bool false] _ _ r6' rfl
                    have nq := fun W => neq_prim W 0 { data := #[] } 0 0 0 false
                    rw [hst] at x0
                    clear r6 r6'
                    go_wp2
                    go_meet
                    case rel => exact ⟨rfl, rfl⟩
              case rest =>
                as_aux_lemma =>
                  obtain ⟨hc1, hc2⟩ := hcut
                  subst hc1 hc2
                  have x0 := S.cell_of _ _ 0 [.int .i64 uu.st, .int .i64 uu.fa, .int .i64 n, .int .i64 s, .int .i64 (B - s), .slice p1 3072 c1, .slice p2 uu.m.tones.length c2] _ _ rO rfl
                  clear hone hsz6 hsi6 z6 r6
                  have hrsz := HII.out.sz
                  go_wp2_with (first
                    | (refine wpList_load_row rfl 39 _ rfl w1.heap.size rfl 39 _ (0, 0) _ rO Tryz.underlying39 rfl (by exact size39) ?_)
                    | (refine wpList_store_row rfl 39 _ _ rfl L0 _ rfl rfl 39 row rL (by exact size39) (by exact hrsz) (by simp [Value.oneCell']) ?_))
                  go_roundw
                  case rel => exact ⟨k + 1, _, _, _, _, hk20, (by first | rfl | rw [w1']), rfl, HIN.out⟩
                  case measure => exact msr2 20 _ _ k (by first | rfl | rw [w1']) rfl hk20
        · skip
          go_upto_region 16 with fail
          try simp only [Act.put, List.setIfInBounds_toArray, List.set_cons_zero, List.set_cons_succ]
          go_cut [191] (fun sx wx => sx = .bool false ∧ wx = wc)
          case first =>
            as_aux_lemma =>
              have x0 := S.cell_of _ _ 0 [.int .i64 uu.st, .int .i64 uu.fa, .int .i64 n, .int .i64 s, .int .i64 (B - s), .slice p1 3072 c1, .slice p2 uu.m.tones.length c2] _ _ HR5.out rfl
              have x1 := S.cell_of _ _ 1 [.int .i64 uu.st, .int .i64 uu.fa, .int .i64 n, .int .i64 s, .int .i64 (B - s), .slice p1 3072 c1, .slice p2 uu.m.tones.length c2] _ _ HR5.out rfl
              have x2 := S.cell_of _ _ 2 [.int .i64 uu.st, .int .i64 uu.fa, .int .i64 n, .int .i64 s, .int .i64 (B - s), .slice p1 3072 c1, .slice p2 uu.m.tones.length c2] _ _ HR5.out rfl
              have x5 := S.cell_of _ _ 5 [.int .i64 uu.st, .int .i64 uu.fa, .int .i64 n, .int .i64 s, .int .i64 (B - s), .slice p1 3072 c1, .slice p2 uu.m.tones.length c2] _ _ HR5.out rfl
              have x6 := S.cell_of _ _ 6 [.int .i64 uu.st, .int .i64 uu.fa, .int .i64 n, .int .i64 s, .int .i64 (B - s), .slice p1 3072 c1, .slice p2 uu.m.tones.length c2] _ _ HR5.out rfl
              obtain ⟨hne, po, co, a2, a3, a4, a6, hrow, hrw0, hnf⟩ := HII.out.ov hov
              obtain ⟨hu, hn0, hs0⟩ : uu = { u with m := M.bg u.m (pad.toNat : Int) } ∧ n = 0 ∧ s = 0 := by have := HIDLE.out hne; injection this with q1 q2 q3; exact ⟨q1, q2, q3⟩
              have hu1 : u.st = uu.st := by rw [hu]
              have hu2 : u.fa = uu.fa := by rw [hu]
              have hu3 : u.m.scr = uu.m.scr := by rw [hu]; rfl
              have hu4 : uu.m.tones.length = 0 := by rw [hu]; rfl
              have g1 : (n != 0) = false := by rw [hn0]; rfl
              have g2 : ((uu.m.tones.length : Int) != 0) = false := by rw [hu4]; rfl
              rw [hu1, hu2, hu3, HSC.out] at hrow
              rw [hu3] at hrw0 hnf
              have HOV := S.hid (HII.out.kept HV.out hrw0 hnf)
              have hL5 := (HB5.out.block L0 (Nat.lt_of_lt_of_le (S.lt_of HBLr.out) hVs)).trans HBL.out
              rw [hrow] at hL5
              have cv1 := Sl_conv ((HRW.out.below HB5.out).sl) (by rw [HSC.out]; exact ml3072)
              have cv2 := Sl_conv (HOV.out.below HB5.out).sl (by rw [HSC.out]; exact ml3072)
              rw [HSC.out] at cv1 cv2
              have o0 := S.cell_of _ _ 0 [.int .i64 uu.st, .int .i64 uu.fa, a2, a3, a4, .slice po 3072 co, a6] _ _ hL5 rfl
              have o1 := S.cell_of _ _ 1 [.int .i64 uu.st, .int .i64 uu.fa, a2, a3, a4, .slice po 3072 co, a6] _ _ hL5 rfl
              have o5 := S.cell_of _ _ 5 [.int .i64 uu.st, .int .i64 uu.fa, a2, a3, a4, .slice po 3072 co, a6] _ _ hL5 rfl
              generalize hss : (⟨uu.m.scr.toArray⟩ : ByteArray) = ss at *
              clear hrow hrw0 hnf hu hu1 hu2 hu3 hu4 hn0 hs0 hL5 hss
              go_wp2
              go_meet
              case rel => exact ⟨rfl, rfl⟩
          case rest =>
            as_aux_lemma =>
              obtain ⟨hc1, hc2⟩ := hcut
              subst hc1 hc2
              have kl := look_any g bd br bm ku _ uu _ (HV.out.s.below HB5.out)
              rw [prV_agg] at kl
              generalize (look uu).x = lx at *
              generalize (look uu).f = lf at *
              go_wp2_with fail
              refine kl.mono ?_
              rintro e w5 ⟨rfl, h5⟩
              obtain ⟨z6, r6, b6⟩ := mkRow w5 #[.int .i64 0, .string { data := #[] }, .int .i64 0, .int .i64 0, .int .i64 0, .bool false] (prC (look uu).op) 49
              have h56 := trB h5 b6 h5.size
              have HB6 := S.hid (trB HB5.out h56 HB5.out.size)
              have rO := (h56.block _ (S.lt_of HR5.out)).trans HR5.out
              have x0 := S.cell_of _ _ 0 [.int .i64 uu.st, .int .i64 uu.fa, .int .i64 n, .int .i64 s, .int .i64 (B - s), .slice p1 3072 c1, .slice p2 uu.m.tones.length c2] _ _ rO rfl
              have x2 := S.cell_of _ _ 2 [.int .i64 uu.st, .int .i64 uu.fa, .int .i64 n, .int .i64 s, .int .i64 (B - s), .slice p1 3072 c1, .slice p2 uu.m.tones.length c2] _ _ rO rfl
              have x4 := S.cell_of _ _ 4 [.int .i64 uu.st, .int .i64 uu.fa, .int .i64 n, .int .i64 s, .int .i64 (B - s), .slice p1 3072 c1, .slice p2 uu.m.tones.length c2] _ _ rO rfl
              have IN := HII.out.next ⟨uu, n, s⟩ B HV.out HSU.out p1 p2 c1 c2 HRW.out HB6.out
              simp only [HSC.out] at IN
              have rL := (HB6.out.block L0 (Nat.lt_of_lt_of_le (S.lt_of HBLr.out) hVs)).trans HBL.out
              have HIN := S.hid IN
              have hone : (prC (look uu).op).all (·.oneCell') = true := prC_one _
              have hsz6 : (#[.int .i64 0, .string { data := #[] }, .int .i64 0, .int .i64 0, .int .i64 0, .bool false] : Array Value).size = (prC (look uu).op).size := (prC_size _).symm
              have hsi6 : (Tryz.prog.info? 49).map (·.size) = some (prC (look uu).op).size := by rw [prC_size]; exact P.sizeR
              have HEP : Hid (uu.st ≠ 1 → prC (look uu).op = #[.int .i64 0, .string { data := #[] }, .int .i64 0, .int .i64 0, .int .i64 0, .bool false]) := S.hid fun hne => by
                have : (look uu).op = 0 := by unfold look; rw [if_neg hne]
                rw [this]; rfl
              clear kl h5 b6 h56 IN x0 x2 x4
              generalize prC (look uu).op = pc6 at *
              go_upto_region 19 with (refine wpList_store_row rfl 49 _ _ rfl w5.heap.size _ rfl rfl 49 #[.int .i64 0, .string { data := #[] }, .int .i64 0, .int .i64 0, .int .i64 0, .bool false] z6 hsi6 hsz6 hone ?_)
              generalize hW6 : (w5.alloc (.cells #[.int .i64 0, .string { data := #[] }, .int .i64 0, .int .i64 0, .int .i64 0, .bool false] 49)).setRow w5.heap.size pc6 = W6 at *
              try simp only [Act.put, List.setIfInBounds_toArray, List.set_cons_zero, List.set_cons_succ]
              go_cut [220] (fun sx wc => sx = .bool false ∧ wc = W6)
              case first =>
                as_aux_lemma =>
                  have x0 := S.cell_of _ _ 0 [.int .i64 uu.st, .int .i64 uu.fa, .int .i64 n, .int .i64 s, .int .i64 (B - s), .slice p1 3072 c1, .slice p2 uu.m.tones.length c2] _ _ rO rfl
                  have x2 := S.cell_of _ _ 2 [.int .i64 uu.st, .int .i64 uu.fa, .int .i64 n, .int .i64 s, .int .i64 (B - s), .slice p1 3072 c1, .slice p2 uu.m.tones.length c2] _ _ rO rfl
                  have x4 := S.cell_of _ _ 4 [.int .i64 uu.st, .int .i64 uu.fa, .int .i64 n, .int .i64 s, .int .i64 (B - s), .slice p1 3072 c1, .slice p2 uu.m.tones.length c2] _ _ rO rfl
                  clear hone hsz6 hsi6 z6
                  rcases HSU.out with ⟨hst, hfa⟩ | ⟨hst, hfa⟩ | ⟨hst, hfa⟩
                  · have g4 : (n == 0) = false := ne0 (HRUN.out hst)
                    rw [hst] at x0
                    by_cases q4 : 4 ≤ B - s
                    · have g5 : decide (4 ≤ B - s) = true := decide_eq_true q4
                      go_wp2
                      go_meet
                      case rel => exact ⟨rfl, rfl⟩
                    · have g5 : decide (4 ≤ B - s) = false := decide_eq_false q4
                      go_wp2
                      go_meet
                      case rel => exact ⟨rfl, rfl⟩
                  · have r6' := r6
                    rw [HEP.out (by rw [hst]; decide)] at r6'
                    have m0 := S.cell_of _ _ 0 [.int .i64 0, .string { data := #[] }, .int .i64 0, .int .i64 0, .int .i64 0, .bool false] _ _ r6' rfl
                    have m1 := S.cell_of _ _ 1 [.int .i64 0, .string { data := #[] }, .int .i64 0, .int .i64 0, .int .i64 0, .bool false] _ _ r6' rfl
                    have m2 := S.cell_of _ _ 2 [.int .i64 0, .string { data := #[] }, .int .i64 0, .int .i64 0, .int .i64 0, .bool false] _ _ r6' rfl
                    have m3 := S.cell_of _ _ 3 [.int .i64 0, .string { data := #[] }, .int .i64 0, .int .i64 0, .int .i64 0, .bool false] _ _ r6' rfl
                    have m4 := S.cell_of _ _ 4 [.int .i64 0, .string { data := #[] }, .int .i64 0, .int .i64 0, .int .i64 0, .bool false] _ _ r6' rfl
                    have m5 := S.cell_of _ _ 5 [.int .i64 0, .string { data := #[] }, .int .i64 0, .int .i64 0, .int .i64 0, .bool false] _ _ r6' rfl
                    have nq := fun W => neq_prim W 0 { data := #[] } 0 0 0 false
                    rw [hst] at x0
                    clear r6 r6'
                    go_wp2
                    go_meet
                    case rel => exact ⟨rfl, rfl⟩
                  · have r6' := r6
                    rw [HEP.out (by rw [hst]; decide)] at r6'
                    have m0 := S.cell_of _ _ 0 [.int .i64 0, .string { data := #[] }, .int .i64 0, .int .i64 0, .int .i64 0, .bool false] _ _ r6' rfl
                    have m1 := S.cell_of _ _ 1 [.int .i64 0, .string { data := #[] }, .int .i64 0, .int .i64 0, .int .i64 0, .bool false] _ _ r6' rfl
                    have m2 := S.cell_of _ _ 2 [.int .i64 0, .string { data := #[] }, .int .i64 0, .int .i64 0, .int .i64 0, .bool false] _ _ r6' rfl
                    have m3 := S.cell_of _ _ 3 [.int .i64 0, .string { data := #[] }, .int .i64 0, .int .i64 0, .int .i64 0, .bool false] _ _ r6' rfl
                    have m4 := S.cell_of _ _ 4 [.int .i64 0, .string { data := #[] }, .int .i64 0, .int .i64 0, .int .i64 0, .bool false] _ _ r6' rfl
                    have m5 := S.cell_of _ _ 5 [.int .i64 0, .string { data := #[] }, .int .i64 0, .int .i64 0, .int .i64 0, .bool false] _ _ r6' rfl
                    have nq := fun W => neq_prim W 0 { data := #[] } 0 0 0 false
                    rw [hst] at x0
                    clear r6 r6'
                    go_wp2
                    go_meet
                    case rel => exact ⟨rfl, rfl⟩
              case rest =>
                as_aux_lemma =>
                  obtain ⟨hc1, hc2⟩ := hcut
                  subst hc1 hc2
                  have x0 := S.cell_of _ _ 0 [.int .i64 uu.st, .int .i64 uu.fa, .int .i64 n, .int .i64 s, .int .i64 (B - s), .slice p1 3072 c1, .slice p2 uu.m.tones.length c2] _ _ rO rfl
                  clear hone hsz6 hsi6 z6 r6
                  have hrsz := HII.out.sz
                  go_wp2_with (first
                    | (refine wpList_load_row rfl 39 _ rfl w1.heap.size rfl 39 _ (0, 0) _ rO Tryz.underlying39 rfl (by exact size39) ?_)
                    | (refine wpList_store_row rfl 39 _ _ rfl L0 _ rfl rfl 39 row rL (by exact size39) (by exact hrsz) (by simp [Value.oneCell']) ?_))
                  go_roundw
                  case rel => exact ⟨k + 1, _, _, _, _, hk20, (by first | rfl | rw [w1']), rfl, HIN.out⟩
                  case measure => exact msr2 20 _ _ k (by first | rfl | rw [w1']) rfl hk20
end Go.Proofs.YteldjmecomngeaaGreat.V
/-! What the listed table gives a walk; what arguments give one. -/
namespace Go.Proofs.YteldjmecomngeaaGreat.T
open Go.RowKit Go.ChangeShapes Go.WideShapes Go.ChangeAt
open Go.Proofs.YteldjmecomngeaaGreat.M
set_option linter.unusedVariables false
set_option linter.unusedSimpArgs false
set_option maxRecDepth 100000
theorem own : ownKnob Tryz.prog.godebug = none := by kernel_rfl
theorem laidOut : laidOutB Tryz.prog = true := by kernel_rfl
section
variable {H : Type} {enc : TypeId × Value → H}
theorem bytes5 : Tryz.prog.bytesOf 5 = 1 := by kernel_rfl
theorem byte_nat (n : Int) (h0 : 0 ≤ n) (h1 : n ≤ 255) : (((UInt8.ofNat n.toNat).toNat : Nat) : Int) = n := by
  rw [UInt8.toNat_ofNat']
  have : n.toNat % 2 ^ 8 = n.toNat := Nat.mod_eq_of_lt (by omega)
  rw [this]; omega
theorem open_bytes1 {W : World} {a : Option Addr} {len cap : Nat} {d : DataW H} {p : List MemPlace} (h : DataW.Trod enc Tryz.prog W 0 (fun _ => true) true 22 (.slice a len cap) d p) :
    ∃ l : List UInt8, Sl W (.slice a len cap) l ∧ ((d.weights Tryz.prog 22).all (· ≤ reachBytes) = true → l.length + 4096 ≤ room) := by
  obtain ⟨fuel, hf⟩ := h
  rcases open_ints Tryz.underlying22 Tryz.underlying5 (by kernel_rfl) hf with ⟨hcs, hx⟩ | ⟨x, l, c, zs, hcs, _, hl, hm, hz, hx, hcell, hwz⟩
  · simp [Value.cells] at hcs
    obtain ⟨rfl, rfl, rfl⟩ := hcs
    exact ⟨[], .inl ⟨rfl, rfl⟩, fun _ => by decide⟩
  · simp [Value.cells] at hcs
    obtain ⟨rfl, rfl, rfl⟩ := hcs
    simp only [Prod.mk.injEq] at hx
    obtain ⟨rfl, rfl⟩ := hx
    simp only [if_true] at hz
    have hlen : ((zs.take len).map fun n => UInt8.ofNat n.toNat).length = len := by simp; omega
    refine ⟨(zs.take len).map fun n => UInt8.ofNat n.toNat, .inr ⟨x, cap, by rw [hlen], by rw [hlen]; exact hl, fun j b hj => ?_⟩, fun hw => ?_⟩
    · have hjl : j < len := by
        by_cases h : j < len
        · exact h
        · rw [List.getElem?_eq_none (by rw [hlen]; omega)] at hj; cases hj
      have hc := hcell j (by omega)
      rw [hc]
      have hb := range_u8 hwz j
      rw [List.getElem?_map, List.getElem?_take, if_pos hjl, List.getElem?_eq_getElem (by omega)] at hj
      simp only [Option.map_some, Option.some.injEq] at hj
      subst hj
      have e : zs.getD j 0 = zs[j]'(by omega) := by simp [List.getD, List.getElem?_eq_getElem (show j < zs.length by omega)]
      have e2 : zs[j]?.getD 0 = zs[j]'(by omega) := by rw [List.getElem?_eq_getElem (show j < zs.length by omega)]; rfl
      rw [e2] at hb
      rw [e, byte_nat _ (by omega) (by omega)]
    · rw [hlen]
      simp only [DataW.weights, Tryz.underlying22, List.all_cons, bytes5, Bool.and_eq_true, decide_eq_true_eq] at hw
      have h2 : (lits (H := H) .u8 (zs.take len)).length = len := by simp [lits]; omega
      have h3 := hw.1
      rw [h2] at h3
      unfold reachBytes at h3
      unfold room
      omega
theorem open_bytes0 {W : World} {fuel : Nat} {cs : List Value} {x : DataW H × List MemPlace} (h : DataW.trod enc Tryz.prog W 0 (fun _ => true) true fuel 22 cs = some x) :
    ∃ (v : Value) (l : List UInt8), cs = [v] ∧ Sl W v l ∧ ((x.1.weights Tryz.prog 22).all (· ≤ reachBytes) = true → l.length + 4096 ≤ room) := by
  have hcs : ∃ v, cs = [v] := by
    rcases open_ints Tryz.underlying22 Tryz.underlying5 (by kernel_rfl) h with ⟨hcs, hx⟩ | ⟨x, l, c, zs, hcs, _⟩
    · exact ⟨_, hcs⟩
    · exact ⟨_, hcs⟩
  obtain ⟨v, rfl⟩ := hcs
  have hv : ∃ a len cap, v = .slice a len cap := by
    rcases open_ints Tryz.underlying22 Tryz.underlying5 (by kernel_rfl) h with ⟨hcs, hx⟩ | ⟨x, l, c, zs, hcs, _⟩
    · simp at hcs; exact ⟨_, _, _, hcs⟩
    · simp at hcs; exact ⟨_, _, _, hcs⟩
  obtain ⟨a, len, cap, rfl⟩ := hv
  obtain ⟨l, h1, h3⟩ := open_bytes1 (a := a) (len := len) (cap := cap) (d := x.1) (p := x.2) ⟨fuel, h⟩
  exact ⟨_, l, rfl, h1, h3⟩
theorem weights_all (P : Program) (e : TypeId) (D : Nat → DataW H) (q : Nat → Bool) : ∀ (is : List Nat), (DataW.weightsAll P e (is.map D)).all q = true → ∀ i ∈ is, ((D i).weights P e).all q = true := by
  intro is
  induction is with
  | nil => intro _ i hi; simp at hi
  | cons j is ih =>
    intro h i hi
    simp only [List.map_cons, DataW.weightsAll, List.all_append, Bool.and_eq_true] at h
    rcases List.mem_cons.1 hi with rfl | hi
    · exact h.1
    · exact ih h.2 i hi
theorem und37 : Tryz.prog.underlying 81 = some (.struct #[⟨ "Num", 3, 0, false, "", "", 0⟩, ⟨ "Data", 22, 1, false, "", "", 8⟩]) := by kernel_rfl
theorem add_none {a : Addr} {W : World} {v : Value} (h : W.cell? (a.add 0) = some v) : a.spot = none := by
  have := World.cell?_spot h
  simpa [Addr.add] using this
theorem add_at (b o k : Nat) : (⟨b, o, none⟩ : Addr).add k = ⟨b, o + k, none⟩ := Addr.add_lit _ _ _
theorem open_banks0 {W : World} {a : Option Addr} {len cap : Nat} {d : DataW H} {p : List MemPlace} (h : DataW.Trod enc Tryz.prog W 0 (fun _ => true) true 25 (.slice a len cap) d p)
    (hw : (d.weights Tryz.prog 25).all (· ≤ reachBytes) = true) :
    ∃ (bs : List (Int × List UInt8)), len = bs.length ∧ BnS W a bs ∧ bs.length * 32 ≤ room ∧ (∀ t ∈ bs, t.2.length + 1 ≤ room) ∧ ∀ t ∈ bs, (Lit.int .i64 t.1).wf = true := by
  obtain ⟨fuel, hf⟩ := h
  rcases Deep.open_slice_pairs Tryz.underlying25 und37 (by kernel_rfl) rfl rfl (by kernel_rfl) (by kernel_rfl) hf with ⟨hcs, hx⟩ | ⟨x, l, c, m, n, V0, V1, D0, D1, P0, P1, hcs, _, hl, hm, hmm, hx, hel⟩
  · simp [Value.cells] at hcs
    obtain ⟨rfl, rfl, rfl⟩ := hcs
    exact ⟨[], rfl, fun i l hi => by simp at hi, by simp, by simp, by simp⟩
  · simp [Value.cells] at hcs
    obtain ⟨rfl, rfl, rfl⟩ := hcs
    simp only [Prod.mk.injEq] at hx
    obtain ⟨rfl, rfl⟩ := hx
    simp only [if_true] at hmm
    have hby : Tryz.prog.bytesOf 81 = 32 := by kernel_rfl
    simp only [DataW.weights, Tryz.underlying25, List.all_cons, List.all_append, Bool.and_eq_true, decide_eq_true_eq, hby, List.length_map, List.length_range] at hw
    have hw1 := hw.1
    unfold reachBytes at hw1
    have hwi := weights_all Tryz.prog 81 _ _ (List.range len) hw.2.1
    have hsp0 : 0 < len → x.spot = none := fun hp => add_none (hel 0 (by omega)).1
    have hex : ∀ i, i < len → ∃ t : Int × List UInt8, (∃ b o dv, some x = some (⟨b, o, none⟩ : Addr) ∧ W.cell? ⟨b, o + i * 2, none⟩ = some (.int .i64 t.1) ∧ W.cell? ⟨b, o + i * 2 + 1, none⟩ = some dv ∧ Sl W dv t.2 ∧ t.2.length + 4096 ≤ room ∧ (Lit.int .i64 t.1).wf = true) := fun i hi => by
      obtain ⟨g0, g1, t0, t1⟩ := hel i (by omega)
      obtain ⟨k, e0, _, w0⟩ := DataW.trod_int Tryz.underlying3 t0
      obtain ⟨dv, l, e1, hs, hlw⟩ := open_bytes0 t1
      simp at e0 e1
      rw [e0] at g0
      rw [e1] at g1
      have hsp := hsp0 (by omega)
      obtain ⟨b, o, sp⟩ := x
      simp only at hsp
      subst hsp
      rw [add_at] at g0 g1
      refine ⟨(k, l), b, o, dv, rfl, g0, by rw [Nat.add_assoc]; exact g1, hs, hlw ?_, w0⟩
      have hwk := hwi i (by simpa using hi)
      simp only [DataW.weights, und37, List.map_cons, List.map_nil, DataW.weightsEach, List.all_append, Bool.and_eq_true] at hwk
      exact hwk.2.1
    obtain ⟨f, hf2⟩ := Deep.choose_lt hex
    refine ⟨(List.range len).map f, by simp, fun i t hi => ?_, by simp; unfold room; omega, ?_, ?_⟩
    · have hil : i < len := by
        by_cases h : i < len
        · exact h
        · rw [List.getElem?_eq_none (by simp; omega)] at hi; cases hi
      simp [hil] at hi
      subst hi
      obtain ⟨b, o, dv, e1, e2, e3, e4, e5, e6⟩ := hf2 i hil
      exact ⟨b, o, dv, e1, e2, e3, e4, by omega⟩
    · intro t ht
      simp only [List.mem_map, List.mem_range] at ht
      obtain ⟨i, hi, rfl⟩ := ht
      obtain ⟨b, o, dv, e1, e2, e3, e4, e5, e6⟩ := hf2 i hi
      omega
    · intro t ht
      simp only [List.mem_map, List.mem_range] at ht
      obtain ⟨i, hi, rfl⟩ := ht
      obtain ⟨b, o, dv, e1, e2, e3, e4, e5, e6⟩ := hf2 i hi
      exact e6
theorem und80 : Tryz.prog.underlying 190 = some (.struct #[⟨ "At", 23, 0, false, "", "", 0⟩, ⟨ "In", 3, 1, false, "", "", 8⟩, ⟨ "Out", 3, 2, false, "", "", 16⟩]) := by kernel_rfl
theorem open_eff {W : World} {n : Nat} {cs : List Value} {D : DataW H} {Pl : List MemPlace} (h : DataW.trod enc Tryz.prog W 0 (fun _ => true) true n 190 cs = some (D, Pl)) :
    ∃ (a i o : Int), cs = [.int .u16 a, .int .i64 i, .int .i64 o] ∧ (Lit.int .u16 a).wf = true ∧ (Lit.int .i64 i).wf = true ∧ (Lit.int .i64 o).wf = true := by
  obtain ⟨xs, q, _, hxy, hcl, hxl, hf⟩ := DataW.trod_struct und80 h
  have hc3 : Tryz.prog.cellsOf 190 = 3 := by kernel_rfl
  rw [hc3] at hcl
  have c3 : Tryz.prog.cellsOf 3 = 1 := by kernel_rfl
  have c23 : Tryz.prog.cellsOf 23 = 1 := by kernel_rfl
  match xs, hxl, cs, hcl with
  | [x0, x1, x2], _, [a, b, c], _ =>
    have f0 := hf 0 _ rfl
    have f1 := hf 1 _ rfl
    have f2 := hf 2 _ rfl
    replace f0 : DataW.trod enc Tryz.prog W 0 (fun _ => true) true q 23 [a] = some x0 := by simpa [c23] using f0
    replace f1 : DataW.trod enc Tryz.prog W 0 (fun _ => true) true q 3 [b] = some x1 := by simpa [c23, c3] using f1
    replace f2 : DataW.trod enc Tryz.prog W 0 (fun _ => true) true q 3 [c] = some x2 := by simpa [c23, c3] using f2
    obtain ⟨k, e0, _, w0⟩ := DataW.trod_int Tryz.underlying23 f0
    obtain ⟨m, e1, _, w1⟩ := DataW.trod_int Tryz.underlying3 f1
    obtain ⟨o, e2, _, w2⟩ := DataW.trod_int Tryz.underlying3 f2
    simp at e0 e1 e2
    subst e0 e1 e2
    exact ⟨k, m, o, rfl, w0, w1, w2⟩
theorem open_effs0 {W : World} {a : Option Addr} {len cap : Nat} {d : DataW H} {p : List MemPlace} (h : DataW.Trod enc Tryz.prog W 0 (fun _ => true) true 24 (.slice a len cap) d p)
    (hw : (d.weights Tryz.prog 24).all (· ≤ reachBytes) = true) :
    ∃ (es : List Ef), len = es.length ∧ EfS W a es ∧ es.length * 24 ≤ room ∧ (∀ x ∈ es, x.1 < 65536) ∧ ∀ x ∈ es, (Lit.int .i64 x.2.1).wf = true ∧ (Lit.int .i64 x.2.2).wf = true := by
  obtain ⟨fuel, hf⟩ := h
  rcases Deep.open_slice Tryz.underlying24 hf with ⟨hcs, hx⟩ | ⟨x, l, c, m, n, D, Pl, hcs, _, hl, hm, hmm, hx, hel⟩
  · simp [Value.cells] at hcs
    obtain ⟨rfl, rfl, rfl⟩ := hcs
    exact ⟨[], rfl, fun i l hi => by simp at hi, by simp, by simp, by simp⟩
  · simp [Value.cells] at hcs
    obtain ⟨rfl, rfl, rfl⟩ := hcs
    simp only [Prod.mk.injEq] at hx
    obtain ⟨rfl, rfl⟩ := hx
    simp only [if_true] at hmm
    have hc3 : Tryz.prog.cellsOf 190 = 3 := by kernel_rfl
    rw [hc3] at hel
    have hby : Tryz.prog.bytesOf 190 = 24 := by kernel_rfl
    simp only [DataW.weights, Tryz.underlying24, List.all_cons, List.all_append, Bool.and_eq_true, decide_eq_true_eq, hby, List.length_map, List.length_range] at hw
    have hw1 := hw.1
    unfold reachBytes at hw1
    have hsp0 : 0 < len → x.spot = none := fun hp => by
      obtain ⟨cs', h1, h2⟩ := hel 0 (by omega)
      obtain ⟨_, hlen, hcell⟩ := World.cells?_some h1
      obtain ⟨k, m2, o2, rfl, _⟩ := open_eff h2
      have g0 := hcell 0 (by decide)
      rw [Deep.add_add] at g0
      exact add_none g0
    have hex : ∀ i, i < len → ∃ t : Ef, (∃ b o, some x = some (⟨b, o, none⟩ : Addr) ∧ W.cell? ⟨b, o + i * 3, none⟩ = some (.int .u16 (t.1 : Int)) ∧ W.cell? ⟨b, o + i * 3 + 1, none⟩ = some (.int .i64 t.2.1) ∧ W.cell? ⟨b, o + i * 3 + 2, none⟩ = some (.int .i64 t.2.2)) ∧ t.1 < 65536 ∧ (Lit.int .i64 t.2.1).wf = true ∧ (Lit.int .i64 t.2.2).wf = true := fun i hi => by
      obtain ⟨cs', h1, h2⟩ := hel i (by omega)
      obtain ⟨_, hlen, hcell⟩ := World.cells?_some h1
      obtain ⟨k, m2, o2, rfl, w0, w1, w2⟩ := open_eff h2
      have hb := bounds_u16 w0
      obtain ⟨kn, rfl⟩ : ∃ kn : Nat, k = (kn : Int) := ⟨k.toNat, by omega⟩
      have g0 := hcell 0 (by decide)
      have g1 := hcell 1 (by decide)
      have g2 := hcell 2 (by decide)
      simp only [List.getElem?_cons_zero, List.getElem?_cons_succ] at g0 g1 g2
      rw [Deep.add_add] at g0 g1 g2
      have hsp := hsp0 (by omega)
      obtain ⟨b, o, sp⟩ := x
      simp only at hsp
      subst hsp
      rw [add_at] at g0 g1 g2
      exact ⟨(kn, m2, o2), ⟨b, o, rfl, g0, by rw [Nat.add_assoc]; exact g1, by rw [Nat.add_assoc]; exact g2⟩, by show kn < 65536; omega, w1, w2⟩
    obtain ⟨f, hf2⟩ := Deep.choose_lt hex
    refine ⟨(List.range len).map f, by simp, fun i t hi => ?_, by simp; unfold room; omega, ?_, ?_⟩
    · have hil : i < len := by
        by_cases h : i < len
        · exact h
        · rw [List.getElem?_eq_none (by simp; omega)] at hi; cases hi
      simp [hil] at hi
      subst hi
      exact (hf2 i hil).1
    · intro t ht
      simp only [List.mem_map, List.mem_range] at ht
      obtain ⟨i, hi, rfl⟩ := ht
      exact (hf2 i hi).2.1
    · intro t ht
      simp only [List.mem_map, List.mem_range] at ht
      obtain ⟨i, hi, rfl⟩ := ht
      exact (hf2 i hi).2.2
theorem und27 : Tryz.prog.underlying 27 = some (.struct #[⟨ "Code", 22, 0, false, "", "", 0⟩, ⟨ "Entry", 23, 1, false, "", "", 24⟩, ⟨ "Effects", 24, 2, false, "", "", 32⟩, ⟨ "Banks", 25, 3, false, "", "", 56⟩]) := by kernel_rfl
theorem list4 {α : Type} (l : List α) (h : l.length = 4) : ∃ a0 a1 a2 a3, l = [a0, a1, a2, a3] := by
  rcases l with _ | ⟨a0, _ | ⟨a1, _ | ⟨a2, _ | ⟨a3, _ | ⟨b, l⟩⟩⟩⟩⟩
  all_goals first | exact ⟨_, _, _, _, rfl⟩ | (simp at h)
/-- A cartridge that came in. -/
theorem open_cart {W : World} {base : Nat} {v : Value} {d : DataW H} {p : List MemPlace} (hval : Value.okWide Tryz.prog W .any base 27 v) (h : DataW.Trod enc Tryz.prog W 0 (fun _ => true) true 27 v d p)
    (hw : (d.weights Tryz.prog 27).all (· ≤ reachBytes) = true) :
    ∃ (c : Ct) (ep : Option Addr) (ec : Nat) (bp : Option Addr) (bc : Nat) (kv : Value), IsC W v c ep ec bp bc kv ∧ (ep = none → ec = 0) ∧ c.code.length + 4096 ≤ room := by
  obtain ⟨cs, rfl, hsz⟩ := okWide_struct und27 hval
  obtain ⟨fuel, hf⟩ := h
  obtain ⟨xs, q, _, hxy, hcl, hxl, hff⟩ := DataW.trod_struct und27 hf
  have hc4 : Tryz.prog.cellsOf 27 = 4 := by kernel_rfl
  rw [hc4] at hcl
  have k22 : Tryz.prog.cellsOf 22 = 1 := by kernel_rfl
  have k23 : Tryz.prog.cellsOf 23 = 1 := by kernel_rfl
  have k24 : Tryz.prog.cellsOf 24 = 1 := by kernel_rfl
  have k25 : Tryz.prog.cellsOf 25 = 1 := by kernel_rfl
  have hcs : ∃ a0 a1 a2 a3, cs = #[a0, a1, a2, a3] := by
    obtain ⟨l⟩ := cs
    simp [Value.cells] at hcl
    obtain ⟨a0, a1, a2, a3, e⟩ := list4 l hcl
    exact ⟨a0, a1, a2, a3, by rw [e]⟩
  obtain ⟨a0, a1, a2, a3, rfl⟩ := hcs
  obtain ⟨x0, x1, x2, x3, rfl⟩ := list4 xs hxl
  have f0 := hff 0 _ rfl
  have f1 := hff 1 _ rfl
  have f2 := hff 2 _ rfl
  have f3 := hff 3 _ rfl
  replace f0 : DataW.trod enc Tryz.prog W 0 (fun _ => true) true q 22 [a0] = some x0 := by simpa [k22, Value.cells] using f0
  replace f1 : DataW.trod enc Tryz.prog W 0 (fun _ => true) true q 23 [a1] = some x1 := by simpa [k23, Value.cells] using f1
  replace f2 : DataW.trod enc Tryz.prog W 0 (fun _ => true) true q 24 [a2] = some x2 := by simpa [k24, Value.cells] using f2
  replace f3 : DataW.trod enc Tryz.prog W 0 (fun _ => true) true q 25 [a3] = some x3 := by simpa [k25, Value.cells] using f3
  have hd : d = .agg [x0.1, x1.1, x2.1, x3.1] := by
    simp only [Prod.mk.injEq] at hxy; rw [hxy.1]; rfl
  rw [hd] at hw
  simp only [DataW.weights, und27, List.map_cons, List.map_nil, DataW.weightsEach, List.all_append, Bool.and_eq_true] at hw
  obtain ⟨w0, w1, w2, w3, _⟩ := hw
  obtain ⟨kv, code, ek, hk, hkl⟩ := open_bytes0 f0
  simp at ek
  subst ek
  obtain ⟨z1, e1, _, b1⟩ := DataW.trod_int Tryz.underlying23 f1
  simp at e1
  subst e1
  have hb1 := bounds_u16 b1
  obtain ⟨en, rfl⟩ : ∃ en : Nat, z1 = (en : Int) := ⟨z1.toNat, by omega⟩
  have hv2 : ∃ p n c, a2 = .slice p n c ∧ (p = none → c = 0) := by
    rcases Deep.open_slice Tryz.underlying24 f2 with ⟨hcs, _⟩ | ⟨x, l, c, m, n, D, Pl, hcs, _⟩ <;> (simp at hcs; exact ⟨_, _, _, hcs, by simp⟩)
  obtain ⟨ep, n2, ec, rfl, hnn⟩ := hv2
  have hv3 : ∃ p n c, a3 = .slice p n c := by
    rcases Deep.open_slice Tryz.underlying25 f3 with ⟨hcs, _⟩ | ⟨x, l, c, m, n, D, Pl, hcs, _⟩ <;> (simp at hcs; exact ⟨_, _, _, hcs⟩)
  obtain ⟨bp, n3, bc, rfl⟩ := hv3
  obtain ⟨es, rfl, g1, g2, g3, g4⟩ := open_effs0 (d := x2.1) (p := x2.2) ⟨q, f2⟩ w2
  obtain ⟨bs, rfl, j1, j2, j3, j4⟩ := open_banks0 (d := x3.1) (p := x3.2) ⟨q, f3⟩ w3
  have hl0 := hkl w0
  exact ⟨⟨code, en, es, bs⟩, ep, ec, bp, bc, a0, ⟨rfl, hk, by show code.length ≤ room; omega, g1, g2, j1, j2, ⟨by show en < 65536; omega, g3⟩, g4, j4⟩, hnn, hl0⟩
end
end Go.Proofs.YteldjmecomngeaaGreat.T
/-! What arguments give a walk: numbers, bytes. -/
namespace Go.Proofs.YteldjmecomngeaaGreat.V
open Go.RowKit Go.ChangeShapes Go.WideShapes Go.ChangeAt
open Go.Proofs
set_option linter.unusedVariables false
set_option linter.unusedSimpArgs false
set_option maxRecDepth 100000
set_option maxHeartbeats 2000000
section
variable {H : Type} {enc : TypeId × Value → H}
theorem open_is {W : World} {base : Nat} {v : Value} {d : DataW H} {p : List MemPlace} (hval : Value.okWide Tryz.prog W .any base 28 v) (h : DataW.Trod enc Tryz.prog W 0 (fun _ => true) true 28 v d p) :
    ∃ (l : List Int) (pp : Option Addr) (c : Nat), v = .slice pp l.length c ∧ Is W pp l := by
  obtain ⟨a, len, cap, rfl⟩ := okWide_slice Tryz.underlying28 hval
  obtain ⟨fuel, hf⟩ := h
  rcases open_ints Tryz.underlying28 Tryz.underlying3 (by kernel_rfl) hf with ⟨hcs, hx⟩ | ⟨y, l, c, zs, hcs, _, hl, hm, hz, hx, hcell, hwz⟩
  · simp [Value.cells] at hcs
    obtain ⟨rfl, rfl, rfl⟩ := hcs
    exact ⟨[], none, 0, rfl, fun i a hi => by simp at hi⟩
  · simp [Value.cells] at hcs
    obtain ⟨rfl, rfl, rfl⟩ := hcs
    simp only [if_true] at hz
    have hlen : (zs.take len).length = len := by simp; omega
    refine ⟨zs.take len, some y, cap, by rw [hlen], fun i z hi => ?_⟩
    have hjl : i < len := by
      by_cases h : i < len
      · exact h
      · rw [List.getElem?_eq_none (by rw [hlen]; omega)] at hi; cases hi
    have hc := hcell i (by omega)
    rw [List.getElem?_take, if_pos hjl, List.getElem?_eq_getElem (by omega)] at hi
    simp only [Option.some.injEq] at hi
    subst hi
    have e : zs.getD i 0 = zs[i]'(by omega) := by simp [List.getD, List.getElem?_eq_getElem (show i < zs.length by omega)]
    rw [e] at hc
    have hsp : y.spot = none := T.add_none (hcell 0 (by omega))
    obtain ⟨b, o, sp⟩ := y
    simp only at hsp
    subst hsp
    rw [T.add_at] at hc
    exact ⟨b, o, rfl, hc⟩
theorem open_bs {W : World} {base : Nat} {v : Value} {d : DataW H} {p : List MemPlace} (hval : Value.okWide Tryz.prog W .any base 22 v) (h : DataW.Trod enc Tryz.prog W 0 (fun _ => true) true 22 v d p) :
    ∃ (l : List UInt8) (pp : Option Addr) (c : Nat), v = .slice pp l.length c ∧ M.Sl W (.slice pp l.length c) l := by
  obtain ⟨a, len, cap, rfl⟩ := okWide_slice Tryz.underlying22 hval
  obtain ⟨l, hs, _⟩ := T.open_bytes1 h
  obtain ⟨p', c', e, _⟩ := hs.ex
  cases e
  exact ⟨l, _, _, rfl, hs⟩
end
end Go.Proofs.YteldjmecomngeaaGreat.V
