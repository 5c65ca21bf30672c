import Derived.Test.YtcnhfgoflfnocaaTake
/-! The law's take, walked. -/
namespace Go.Proofs.Ytcnhfgoflfnocaa
open Go.RowKit
open Go.Proofs
set_option linter.unusedVariables false
set_option linter.unusedSimpArgs false
theorem one_slice {W : World} {B : Nat} {e : TypeId} {size : Nat} {v : Value} {n : Nat} {xs : List Value} (h : W.ownsRow B e size v n xs) : v.oneCell' = true := by
  obtain ⟨p, c, rfl⟩ := ex_slice h; rfl
theorem cs_one (W : World) (v : Value) (t : TypeId) (h1 : v.oneCell' = true) : Cs (W.alloc (.cells #[v] t)) (.slice (some ⟨W.heap.size, 0, none⟩) 1 1) 1 1 [v] := by
  refine .inr ⟨⟨W.heap.size, 0, none⟩, 1, rfl, rfl, fun j u hj => ?_, fun u hu => by simp at hu; subst hu; exact h1⟩
  have hn : (W.alloc (.cells #[v] t)).heap[W.heap.size]? = some (.cells [v].toArray t (0, 0)) := heap_alloc_new W _
  rw [Addr.add_lit]
  exact cell_of _ _ _ _ t u hn (by rw [Nat.zero_add]; exact hj)
/-- The pair's block. -/
def pb (bd br be bq : Nat) (gv gr : Value) : List Value := [ptr bd, ptr br, ptr be, ptr bq, gv, gr]
section
variable {lo hi lo2 hi2 B : Nat} {bp bd br be bq : Nat} {gv gr ev qv : Value} {vs ws : List Value} {D : List Int} {R : List (Int × Int)} {n : Nat}
set_option maxHeartbeats 4000000
set_option maxRecDepth 100000
theorem take_any (lv mv : Value) (l : List Int) (m : List (Int × Int)) (w : World) (h : PX lo hi B w bp bd br be bq gv gr ev qv vs ws D R n) (h2 : PX lo2 hi2 B w bp bd br be bq gv gr ev qv vs ws D R n)
    (hl : RowU w B lv l) (hm : RowK w B mv m) (ll : l.length ≤ 300) (ml : m.length ≤ 300) (al : ∀ g, lv.ownBlock = some g → lo ≤ g ∧ g < hi) (am : ∀ g, mv.ownBlock = some g → lo ≤ g ∧ g < hi)
    (al2 : ∀ g, lv.ownBlock = some g → Av lo2 hi2 g) (am2 : ∀ g, mv.ownBlock = some g → Av lo2 hi2 g) (hh : hi2 ≤ w.heap.size) (hn : n ≤ 1500) :
    Calls Try.prog 44 #[.pointer (some ⟨bp, 0, none⟩), lv, mv] w fun e w' => e = .returned (.tuple #[]) ∧ (∃ gv' gr' vs' ws', PX lo2 hi2 B w' bp bd br be bq gv' gr' ev qv vs' ws' D R (n + 1)) ∧
      Tc (fun k => k = bp ∨ gv.ownBlock = some k ∨ gr.ownBlock = some k ∨ lv.ownBlock = some k ∨ mv.ownBlock = some k) w w' ∧ Below B w w' := by
  obtain ⟨pl, cl, rfl⟩ := ex_slice hl
  obtain ⟨pm, cm, rfl⟩ := ex_slice hm
  obtain ⟨pg, cg, rfl⟩ := ex_slice h.g.gs
  obtain ⟨pr, cr, rfl⟩ := ex_slice h.g.rs
  have c4 := cell_of w bp 4 _ 70 _ h.blk rfl
  obtain ⟨K, hK⟩ : ∃ K : Int, 9000 + (n : Int) = K := ⟨_, rfl⟩
  have hK1 : IntKind.i64.wrap (9000 + (n : Int)) = K := by rw [← hK]; exact i64_id _ (by omega) (by omega)
  obtain ⟨M, hM⟩ : ∃ M : Int, IntKind.u16.wrap K = M := ⟨_, rfl⟩
  have HM := hid (show M = mk n by rw [← hM, ← hK]; rfl)
  have HK := hid hK
  have T0 := hid (show TK B w w (.slice pl l.length cl) (.slice pm m.length cm) (.slice pl l.length cl) (.slice pm m.length cm) (hU2 0 n l) (hK2 0 n m) from ⟨hl, hm, fun _ e => .inl e, fun _ e => .inl e, Tc.refl _ _⟩)
  have HP := hid h
  have HP2 := hid h2
  have HAL := hid al
  have HAM := hid am
  have HAL2 := hid al2
  have HAM2 := hid am2
  have HBw := hid (show B ≤ w.heap.size from Nat.le_trans h.hbp (Nat.le_of_lt (lt_of h.blk)))
  have HL := hid hl
  have HMm := hid hm
  clear h h2 hl hm hK al am al2 am2
  go_enter Try.func44, Try.ntmps44
  go_wp2
  go_loopw [7] (fun j wr => ∃ k : Nat, k ≤ l.length ∧ j = .int .i64 (k : Int) ∧ TK B w wr (.slice pl l.length cl) (.slice pm m.length cm) (.slice pl l.length cl) (.slice pm m.length cm) (hU2 k n l) (hK2 0 n m)) (fun j _ => l.length - (intOf j).toNat)
  case atStart => exact ⟨0, by omega, rfl, T0.out⟩
  case round =>
    obtain ⟨k, hk, rfl, hT⟩ := hrel
    by_cases hlt : k < l.length
    · as_aux_lemma =>
        have i1 : decide ((k : Int) < (l.length : Int)) = true := decide_eq_true (by omega)
        have i2 : (k : Int) < (l.length : Int) := by omega
        have hlen := hU2_len k n l hk
        obtain ⟨g, cap, e, hg, hcap⟩ := rowU_pos hT.u (by omega)
        rw [hlen] at e
        simp only [Value.slice.injEq, true_and] at e
        obtain ⟨rfl, rfl⟩ := e
        have hT' := hT
        rw [← hlen] at hT'
        have hglt : g < w.heap.size := (HL.out.lt g rfl).2
        obtain ⟨cur, hcur⟩ := own_at hT'.u
        have z1 := frozen_of wr g k _ 32 hcur
        have hn2 := hT'.setU (n := n) hglt k (by omega) (mk n)
        rw [hU2_set k n l hlt, hlen] at hn2
        obtain ⟨b', o', e', x1⟩ : ∃ b o, some (⟨g, 0, none⟩ : Addr) = some ⟨b, o, none⟩ ∧ wr.cell? ⟨b, o + k, none⟩ = some (.int .u16 (hU2 k n l)[k]) := by
          rcases hT'.u.ls with ⟨e, _⟩ | ⟨x, c, e, _, hs⟩
          · cases e
          · simp only [Value.slice.injEq, true_and] at e
            obtain ⟨e, rfl⟩ := e
            rw [e]
            exact hs.u k _ (List.getElem?_eq_getElem (by omega))
        simp only [Option.some.injEq, Addr.mk.injEq] at e'
        obtain ⟨rfl, rfl, _⟩ := e'
        rw [Nat.zero_add] at x1
        rw [← HM.out] at hn2
        have HN := hid hn2
        generalize (hU2 k n l)[k]'(by omega) = y at x1
        clear hn2 hT hT' hcur hlen T0 HL HMm HM HK
        go_wp2
        go_roundw
        case rel => exact ⟨k + 1, by omega, by go_num, HN.out⟩
        case measure => first | (simp [intOf]; done) | (simp [intOf]; omega)
    · obtain rfl : k = l.length := by omega
      have i1 : decide ((l.length : Int) < (l.length : Int)) = false := decide_eq_false (by omega)
      rw [hU2_full] at hT
      have T1 := hid hT
      clear hT T0
      go_wp2
      go_loopw [8] (fun j wr => ∃ k : Nat, k ≤ m.length ∧ j = .int .i64 (k : Int) ∧ TK B w wr (.slice pl l.length cl) (.slice pm m.length cm) (.slice pl l.length cl) (.slice pm m.length cm) (rU l.length n) (hK2 k n m)) (fun j _ => m.length - (intOf j).toNat)
      case atStart => exact ⟨0, by omega, rfl, T1.out⟩
      case round =>
        obtain ⟨k, hk, rfl, hT⟩ := hrel
        by_cases hlt : k < m.length
        · as_aux_lemma =>
            have i1 : decide ((k : Int) < (m.length : Int)) = true := decide_eq_true (by omega)
            have i2 : (k : Int) < (m.length : Int) := by omega
            have hlen := hK2_len k n m hk
            obtain ⟨g, cap, e, hg, hcap⟩ := rowK_pos hT.k (by omega)
            rw [hlen] at e
            simp only [Value.slice.injEq, true_and] at e
            obtain ⟨rfl, rfl⟩ := e
            have hT' := hT
            rw [← hlen] at hT'
            have hglt : g < w.heap.size := (HMm.out.lt g rfl).2
            obtain ⟨cur, hcur⟩ := own_at hT'.k
            have z1 := frozen_of wr g (k * 2) _ 43 hcur
            have z2 := frozen_of wr g (k * 2 + 1) _ 43 hcur
            have hn2 := hT'.setK (n := n) hglt k (by omega) (9000 + (n : Int)) 0
            rw [hK2_set k n m hlt, hlen, HK.out] at hn2
            obtain ⟨x1, x2⟩ := rowK_get hT'.k k _ (List.getElem?_eq_getElem (by omega))
            have HN := hid hn2
            generalize (hK2 k n m)[k]'(by omega) = y at x1 x2
            clear hn2 hT hT' hcur hlen T1 HL HMm HM HK
            go_wp2
            go_roundw
            case rel => exact ⟨k + 1, by omega, by go_num, HN.out⟩
            case measure => first | (simp [intOf]; done) | (simp [intOf]; omega)
        · obtain rfl : k = m.length := by omega
          have i1 : decide ((m.length : Int) < (m.length : Int)) = false := decide_eq_false (by omega)
          rw [hK2_full] at hT
          have T2 := hid hT
          clear hT T1
          as_aux_lemma =>
            go_wp2
            go_loopw [1, 2, 9] (fun s1 s2 j wr => ∃ (k : Nat) (p1 p2 : Option Addr) (c1 c2 : Nat), k ≤ 80 ∧ j = .int .i64 (k : Int) ∧ s1 = .slice p1 (l.length + k) c1 ∧ s2 = .slice p2 (m.length + k) c2 ∧ TK B w wr (.slice pl l.length cl) (.slice pm m.length cm) (.slice p1 (l.length + k) c1) (.slice p2 (m.length + k) c2) (rU (l.length + k) n) (rK (m.length + k) n)) (fun _ _ j _ => 80 - (intOf j).toNat)
            case atStart => exact ⟨0, pl, pm, cl, cm, by omega, rfl, rfl, rfl, T2.out⟩
            case round =>
              obtain ⟨k, p1, p2, c1, c2, hk, rfl, rfl, rfl, hT⟩ := hrel
              by_cases hlt : k < 80
              · as_aux_lemma =>
                  have i1 : decide ((k : Int) < (80 : Int)) = true := decide_eq_true (by omega)
                  have hBr : B ≤ wr.heap.size := Nat.le_trans HBw.out hT.t.size
                  obtain ⟨wa, hwa⟩ : ∃ wa, wr.alloc (.cells #[.int .u16 M] 32) = wa := ⟨_, rfl⟩
                  have ba : Below wr.heap.size wr wa := by rw [← hwa]; exact (Below.refl _ _).alloc (Nat.le_refl _) _
                  have hru : wa.ownsRow B 32 1 (.slice p1 (l.length + k) c1) (l.length + k) (en eU (rU (l.length + k) n)) := by
                    have : RowU wa B _ _ := own_kept hT.u fun y _ hy => ba.block y hy
                    unfold RowU at this; rwa [rU_len] at this
                  have hcu : Cs wa (.slice (some ⟨wr.heap.size, 0, none⟩) 1 1) 1 1 [.int .u16 M] := by rw [← hwa]; exact cs_one wr _ 32 rfl
                  have hBa : B ≤ wa.heap.size := Nat.le_trans hBr ba.size
                  have HT := hid hT
                  have BA := hid ba
                  clear hT ba T2 HL HMm HP HP2 HAL HAM HAL2 HAM2
                  go_wp2_with (first | (at_builtin; refine wpList_append_row _ rfl _ _ 22 32 _ 1 2 Try.underlying22 info32 rfl (by decide) rfl B _ (l.length + k) (en eU (rU (l.length + k) n)) rfl hru _ 1 [.int .u16 M] rfl hcu (by unfold room; omega) (by unfold maxLen; omega) hBa ?_))
                  intro v3 w3 hr3 hg3
                  have hR3 : RowU w3 B v3 (rU (l.length + (k + 1)) n) := by
                    have e : en eU (rU (l.length + k) n) ++ [.int .u16 M] = en eU (rU (l.length + (k + 1)) n) := by rw [show l.length + (k + 1) = l.length + k + 1 from rfl, ← rU_snoc, en_append, ← HM.out]; rfl
                    rw [e] at hr3
                    unfold RowU; rw [rU_len]; exact hr3
                  have hT3 := HT.out.appU BA.out hg3 hR3
                  obtain ⟨p3, c3, rfl⟩ := ex_slice hR3
                  rw [rU_len] at hT3 hr3 hg3
                  have hB3 : B ≤ w3.heap.size := Nat.le_trans HBw.out hT3.t.size
                  obtain ⟨wc, hwc⟩ : ∃ wc, w3.alloc (.cells #[.int .i64 K, .int .u16 0] 43) = wc := ⟨_, rfl⟩
                  have bc : Below w3.heap.size w3 wc := by rw [← hwc]; exact (Below.refl _ _).alloc (Nat.le_refl _) _
                  have hrk : wc.ownsRow B 43 2 (.slice p2 (m.length + k) c2) (m.length + k) (en eK (rK (m.length + k) n)) := by
                    have : RowK wc B _ _ := own_kept hT3.k fun y _ hy => bc.block y hy
                    unfold RowK at this; rwa [rK_len] at this
                  have hnb : wc.heap[w3.heap.size]? = some (.cells (en eK [(K, 0)]).toArray 43 (0, 0)) := by rw [← hwc]; exact heap_alloc_new w3 _
                  have hck : Cs wc (.slice (some ⟨w3.heap.size, 0, none⟩) 1 1) 2 1 (en eK [(K, 0)]) := .inr ⟨_, 1, rfl, rfl, fun j u hj => (sl_block Ytcnhfgoflfnocaa.hK wc w3.heap.size 43 [(K, 0)] hnb).news Ytcnhfgoflfnocaa.hK (by omega) j u hj, oneK _⟩
                  have hBc : B ≤ wc.heap.size := Nat.le_trans hB3 bc.size
                  have HT3 := hid hT3
                  have BC := hid bc
                  clear hT3 bc hr3 hg3 hR3 hnb hru hcu HT BA hwa
                  rw [rU_len]
                  go_wp2_with (first | (at_builtin; refine wpList_append_row _ rfl _ _ 44 43 _ 2 16 Try.underlying44 info43 rfl (by decide) rfl B _ (m.length + k) (en eK (rK (m.length + k) n)) rfl hrk _ 1 (en eK [(K, 0)]) rfl hck (by unfold room; omega) (by unfold maxLen; omega) hBc ?_))
                  intro v4 w4 hr4 hg4
                  have hR4 : RowK w4 B v4 (rK (m.length + (k + 1)) n) := by
                    have e : en eK (rK (m.length + k) n) ++ en eK [(K, 0)] = en eK (rK (m.length + (k + 1)) n) := by rw [show m.length + (k + 1) = m.length + k + 1 from rfl, ← rK_snoc, en_append, HK.out]
                    rw [e] at hr4
                    unfold RowK; rw [rK_len]; exact hr4
                  have hT4 := HT3.out.appK BC.out hg4 hR4
                  obtain ⟨p4, c4', rfl⟩ := ex_slice hR4
                  rw [rK_len] at hT4
                  have HT4 := hid hT4
                  clear hT4 hr4 hg4 hR4 hrk hck HT3 BC hwc
                  rw [rK_len]
                  go_wp2
                  go_roundw
                  case rel => exact ⟨k + 1, p3, p4, c3, c4', by omega, by go_num, rfl, rfl, HT4.out⟩
                  case measure => first | (simp [intOf]; done) | (simp [intOf]; omega)
              · obtain rfl : k = 80 := by omega
                have i1 : decide ((80 : Int) < (80 : Int)) = false := by decide
                as_aux_lemma =>
                  have P1 := HP.out.touch (W' := wr) fun i hi' ha => hT.t.block i hi' (by
                    rintro (e | e)
                    · have := HAL.out i e; rcases ha with c | c <;> omega
                    · have := HAM.out i e; rcases ha with c | c <;> omega)
                  have hBr : B ≤ wr.heap.size := Nat.le_trans HBw.out hT.t.size
                  have hws := hT.t.size
                  have hbw : bp < w.heap.size := lt_of HP.out.blk
                  have d4 := cell_of wr bp 4 _ 70 _ P1.blk rfl
                  obtain ⟨wa, hwa⟩ : ∃ wa, wr.alloc (.cells #[.slice p1 (l.length + 80) c1] 22) = wa := ⟨_, rfl⟩
                  have ba : Below wr.heap.size wr wa := by rw [← hwa]; exact (Below.refl _ _).alloc (Nat.le_refl _) _
                  have PA := P1.below ba
                  have hca : Cs wa (.slice (some ⟨wr.heap.size, 0, none⟩) 1 1) 1 1 [.slice p1 (l.length + 80) c1] := by rw [← hwa]; exact cs_one wr _ 22 rfl
                  have hga := PA.g.gs
                  have hBa : B ≤ wa.heap.size := Nat.le_trans hBr ba.size
                  have HT := hid hT
                  have BA := hid ba
                  have HPA := hid PA
                  clear hT ba P1 T2 PA HM HK
                  go_wp2_with (first | (at_builtin; refine wpList_append_row _ rfl _ _ 67 22 _ 1 24 Try.underlying67 info22 rfl (by decide) rfl B _ n vs rfl hga _ 1 [.slice p1 (l.length + 80) c1] rfl hca (by unfold room; omega) (by unfold maxLen; omega) hBa ?_))
                  intro v5 w5 hr5 hg5
                  obtain ⟨p5, c5, rfl⟩ := ex_slice hr5
                  have k5 : KT (fun t => t = 22) B wa w5 := hg5.kt HPA.out.g.gs rfl hBa
                  have b5 := k5.typ _ _ _ _ HPA.out.blk (by decide)
                  have c54 := cell_of w5 bp 4 _ 70 _ b5 rfl
                  have z54 := frozen_of w5 bp 4 _ 70 b5
                  obtain ⟨w6, hw6⟩ : ∃ w6, w5.setCell ⟨bp, 4, none⟩ (.slice p5 (n + 1) c5) = w6 := ⟨_, rfl⟩
                  have b6 := setCell_heap w5 bp 4 _ 70 (.slice p5 (n + 1) c5) b5
                  rw [hw6] at b6
                  have k6 : KT (fun t => t = 22 ∨ t = 70) B wa w6 := by
                    refine (k5.mono fun t e => .inl e).trans ?_
                    rw [← hw6]
                    exact KT.at ((Tc.refl (fun k => k = bp) w5).setCell bp 4 rfl _) b5 (.inr rfl) HPA.out.hbp
                  have r6 : w6.ownsRow B 22 1 (.slice p5 (n + 1) c5) (n + 1) (vs ++ [.slice p1 (l.length + 80) c1]) := by
                    rw [← hw6]; exact own_kept hr5 fun y e _ => setCell_other _ _ _ _ _ (own_ne hr5 b5 (by decide) y e)
                  have c65 := cell_of w6 bp 5 _ 70 _ b6 rfl
                  obtain ⟨w7, hw7⟩ : ∃ w7, w6.alloc (.cells #[.slice p2 (m.length + 80) c2] 44) = w7 := ⟨_, rfl⟩
                  have b67 : Below w6.heap.size w6 w7 := by rw [← hw7]; exact (Below.refl _ _).alloc (Nat.le_refl _) _
                  have hB6 : B ≤ w6.heap.size := Nat.le_trans hBa k6.bel.size
                  have k7 : KT (fun t => t = 22 ∨ t = 70) B wa w7 := k6.trans (KT.of b67 hB6)
                  have hga7 := k7.own HPA.out.g.rs (by decide)
                  have hca7 : Cs w7 (.slice (some ⟨w6.heap.size, 0, none⟩) 1 1) 1 1 [.slice p2 (m.length + 80) c2] := by rw [← hw7]; exact cs_one w6 _ 44 rfl
                  have hB7 : B ≤ w7.heap.size := Nat.le_trans hB6 b67.size
                  have b7 := (b67.block bp (lt_of b6)).trans b6
                  have r7 : w7.ownsRow B 22 1 (.slice p5 (n + 1) c5) (n + 1) (vs ++ [.slice p1 (l.length + 80) c1]) := own_kept r6 fun y _ hy => b67.block y hy
                  have hg5o := hg5.own
                  have hg5b := hg5.block
                  have K7 := hid k7
                  have B7 := hid b7
                  have R7 := hid r7
                  have BE7 := hid b67
                  have HW6 := hid hw6
                  have HG5 := hid hg5
                  clear hga hca hr5 hg5 k5 b5 b6 k6 r6 b67 k7 b7 r7 hg5o hg5b hwa
                  go_wp2_with (first | (at_builtin; refine wpList_append_row _ rfl _ _ 68 44 _ 1 24 Try.underlying68 info44 rfl (by decide) rfl B _ n ws rfl hga7 _ 1 [.slice p2 (m.length + 80) c2] rfl hca7 (by unfold room; omega) (by unfold maxLen; omega) hB7 ?_))
                  intro v8 w8 hr8 hg8
                  obtain ⟨p8, c8, rfl⟩ := ex_slice hr8
                  have k8 : KT (fun t => t = 44) B w7 w8 := hg8.kt hga7 rfl hB7
                  have b8 := k8.typ _ _ _ _ B7.out (by decide)
                  have c85 := cell_of w8 bp 5 _ 70 _ b8 rfl
                  have z85 := frozen_of w8 bp 5 _ 70 b8
                  have hvl : vs.length = n := by have := HPA.out.g.gs.1; omega
                  have hwl : ws.length = n := by have := HPA.out.g.rs.1; omega
                  have hfin : (∃ gv' gr' vs' ws', PX lo2 hi2 B (w8.setCell ⟨bp, 5, none⟩ (.slice p8 (n + 1) c8)) bp bd br be bq gv' gr' ev qv vs' ws' D R (n + 1)) ∧
                      Tc (fun k => k = bp ∨ (Value.slice pg n cg).ownBlock = some k ∨ (Value.slice pr n cr).ownBlock = some k ∨ (Value.slice pl l.length cl).ownBlock = some k ∨ (Value.slice pm m.length cm).ownBlock = some k) w (w8.setCell ⟨bp, 5, none⟩ (.slice p8 (n + 1) c8)) ∧ Below B w (w8.setCell ⟨bp, 5, none⟩ (.slice p8 (n + 1) c8)) := by
                    have ks : KT (fun t => t = 44 ∨ t = 70) B w8 (w8.setCell ⟨bp, 5, none⟩ (.slice p8 (n + 1) c8)) := KT.at ((Tc.refl (fun k => k = bp) w8).setCell bp 5 rfl _) b8 (.inr rfl) HPA.out.hbp
                    have k79 : KT (fun t => t = 44 ∨ t = 70) B w7 (w8.setCell ⟨bp, 5, none⟩ (.slice p8 (n + 1) c8)) := (k8.mono fun t e => .inl e).trans ks
                    have k9 : KT (fun t => t = 22 ∨ t = 44 ∨ t = 70) B wa (w8.setCell ⟨bp, 5, none⟩ (.slice p8 (n + 1) c8)) := (K7.out.mono fun t e => by rcases e with e | e; exact .inl e; exact .inr (.inr e)).trans (k79.mono fun t e => .inr e)
                    have hs5 := HG5.out.size
                    have hs6 : w6.heap.size = w5.heap.size := by rw [← HW6.out, setCell_size]
                    have hs7 := BE7.out.size
                    have hsa := BA.out.size
                    have hs8 := hg8.size
                    have hav : ∀ k, w.heap.size ≤ k → Av lo2 hi2 k := fun k hk => .inr (Nat.le_trans hh hk)
                    have ru : RowU wa B (.slice p1 (l.length + 80) c1) (rU (l.length + 80) n) := own_kept HT.out.u fun y _ hy => BA.out.block y hy
                    have rk : RowK wa B (.slice p2 (m.length + 80) c2) (rK (m.length + 80) n) := own_kept HT.out.k fun y _ hy => BA.out.block y hy
                    have htc : Tc (fun k => k = bp ∨ (Value.slice pg n cg).ownBlock = some k ∨ (Value.slice pr n cr).ownBlock = some k ∨ (Value.slice pl l.length cl).ownBlock = some k ∨ (Value.slice pm m.length cm).ownBlock = some k) w (w8.setCell ⟨bp, 5, none⟩ (.slice p8 (n + 1) c8)) := by
                      refine ⟨k9.bel.os.trans (BA.out.os.trans HT.out.t.os), k9.bel.tape.trans (BA.out.tape.trans HT.out.t.tape), k9.bel.output.trans (BA.out.output.trans HT.out.t.output), by rw [setCell_size]; omega, fun k hk hn => ?_⟩
                      have e1 := HT.out.t.block k hk (by rintro (c | c); exact hn (.inr (.inr (.inr (.inl c)))); exact hn (.inr (.inr (.inr (.inr c)))))
                      have e2 := BA.out.block k (by omega)
                      have e3 := HG5.out.block k (by omega) (fun c => hn (.inr (.inl c.symm)))
                      have e4 : w6.heap[k]? = w5.heap[k]? := by rw [← HW6.out]; exact setCell_other _ _ _ _ _ (fun c => hn (.inl c))
                      have e5 := BE7.out.block k (by omega)
                      have e6 := hg8.block k (by omega) (fun c => hn (.inr (.inr (.inl c.symm))))
                      exact (setCell_other _ _ _ _ _ (fun c => hn (.inl c))).trans (e6.trans (e5.trans (e4.trans (e3.trans (e2.trans e1)))))
                    refine ⟨⟨.slice p5 (n + 1) c5, .slice p8 (n + 1) c8, vs ++ [.slice p1 (l.length + 80) c1], ws ++ [.slice p2 (m.length + 80) c2], ?_⟩, htc, htc.below HBw.out ?_⟩
                    · refine { HP2.out with blk := ?_, d := ⟨k9.typ _ _ _ _ HPA.out.d.1 (by decide), HPA.out.d.2⟩, r := ⟨k9.typ _ _ _ _ HPA.out.r.1 (by decide), HPA.out.r.2⟩, e := HPA.out.e.kt k9 (by decide) (by decide), q := HPA.out.q.kt k9 (by decide) (by decide), g := ⟨k79.own R7.out (by decide), ?_, ?_, ?_, ?_, ?_, ?_, ?_⟩ }
                      · rw [setCell_heap w8 bp 5 _ 70 _ b8]; rfl
                      · exact own_kept hr8 fun y e _ => setCell_other _ _ _ _ _ (own_ne hr8 b8 (by decide) y e)
                      · intro i v hv
                        by_cases hi' : i < vs.length
                        · rw [List.getElem?_append_left hi'] at hv
                          obtain ⟨a, ha, r⟩ := HPA.out.g.vl i v hv
                          exact ⟨a, ha, k9.own r (by decide)⟩
                        · obtain rfl : i = n := by have := (List.getElem?_eq_some_iff.1 hv).1; simp at this; omega
                          rw [List.getElem?_append_right (by omega), hvl, Nat.sub_self] at hv
                          simp only [List.getElem?_cons_zero, Option.some.injEq] at hv
                          subst hv
                          exact ⟨l.length + 80, by omega, k9.own ru (by decide)⟩
                      · intro i v hv
                        by_cases hi' : i < ws.length
                        · rw [List.getElem?_append_left hi'] at hv
                          obtain ⟨a, ha, r⟩ := HPA.out.g.wl i v hv
                          exact ⟨a, ha, k9.own r (by decide)⟩
                        · obtain rfl : i = n := by have := (List.getElem?_eq_some_iff.1 hv).1; simp at this; omega
                          rw [List.getElem?_append_right (by omega), hwl, Nat.sub_self] at hv
                          simp only [List.getElem?_cons_zero, Option.some.injEq] at hv
                          subst hv
                          exact ⟨m.length + 80, by omega, k9.own rk (by decide)⟩
                      · intro g e
                        rcases HG5.out.own with c | c
                        · exact HP2.out.g.ag g (c ▸ e)
                        · exact hav g (by have := c g e; omega)
                      · intro g e
                        rcases hg8.own with c | c
                        · exact HP2.out.g.ar g (c ▸ e)
                        · exact hav g (by have := c g e; omega)
                      · intro v hv g e
                        rcases List.mem_append.1 hv with hv | hv
                        · exact HP2.out.g.av v hv g e
                        · simp only [List.mem_singleton] at hv
                          subst hv
                          rcases HT.out.nu g e with c | c
                          · exact HAL2.out g c
                          · exact hav g c
                      · intro v hv g e
                        rcases List.mem_append.1 hv with hv | hv
                        · exact HP2.out.g.aw v hv g e
                        · simp only [List.mem_singleton] at hv
                          subst hv
                          rcases HT.out.nk g e with c | c
                          · exact HAM2.out g c
                          · exact hav g c
                    · rintro i (rfl | e | e | e | e)
                      · exact HPA.out.hbp
                      · exact (HPA.out.g.gs.lt i e).1
                      · exact (HPA.out.g.rs.lt i e).1
                      · exact (HL.out.lt i e).1
                      · exact (HMm.out.lt i e).1
                  have HF := hid hfin
                  clear hfin hga7 hca7 hr8 hg8 k8 b8 hvl hwl K7 B7 R7 BE7 HW6 HG5 HPA HT BA HP HP2 HAL HAM HAL2 HAM2 HL HMm hw6 hw7
                  go_wp2
                  go_end0
                  exact ⟨rfl, HF.out⟩
end
end Go.Proofs.Ytcnhfgoflfnocaa
