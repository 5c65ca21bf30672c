import Derived.Test.YtgponcjjnjpfkaaGreatMFull
import Derived.Test.YtgponcjjnjpfkaaGreatMImageKit
import Derived.Deep.RegionHeldLaw
/-! The reference: Copy, walked. -/
namespace Go.Proofs.YtgponcjjnjpfkaaGreat.M
open Go.RowKit
open Go.Proofs
set_option linter.unusedVariables false
set_option linter.unusedSimpArgs false
set_option maxRecDepth 100000 in
theorem step_full {ops : Array Oper} {o : Oper} {a : Act} {w : World} {K : Act → World → Prop} {Q : Exit → Act → World → Prop} {E : Prop} (hgd : o.guard = none) (s x : Operand) (ho : o.op = .call { callee := .value (.func 65), args := #[s, x], argTypes := #[80, 3] })
    (u v : Value) (hs : a.eval s = u) (hx : a.eval x = v) {Post : Ending → World → Prop} (hc : Calls Tryz.prog 65 #[u, v] w Post) (h : ∀ e w', Post e w' → ∃ v, e = .returned v ∧ K (a.put o.dst v) w') :
    if Region.wanted o (yielded ops a.tmps) = true then Oper.wp Tryz.prog o a w K Q else E := by
  have hw : Region.wanted o (yielded ops a.tmps) = true := by simp [Region.wanted, hgd]
  rw [if_pos hw]
  unfold Oper.wp execOp
  simp only [ho, resolve, invoke, Sem.run_bind, Sem.run_pure, Result.andThen_ok, List.map_toArray, List.map_cons, List.map_nil, hs, hx, Tryz.call65]
  refine hc.mono ?_
  intro e w' hp
  obtain ⟨v, rfl, hk⟩ := h e w' hp
  exact hk
set_option maxHeartbeats 4000000
set_option maxRecDepth 100000
theorem rcopy_any (b : Nat) (bs : List (Int × List UInt8)) (m : MS) (pb : Option Addr) (c : Nat) (rv sv tv : Value) (w : World) (h : RV w b bs m pb c rv sv tv) :
    Calls Tryz.prog 83 #[.pointer (some ⟨b, 0, none⟩)] w fun e w' => ∃ b', e = .returned (.pointer (some ⟨b', 0, none⟩)) ∧ HasR w' (fun k => w.heap.size ≤ k) b' (padB bs) { m with ram := padN 16384 m.ram, scr := padN 3072 m.scr } ∧ Below w.heap.size w w' := by
  have c0 := cell_of w b 0 _ 130 _ h.blk rfl
  have c1 := cell_of w b 1 _ 130 _ h.blk rfl
  have c2 := cell_of w b 2 _ 130 _ h.blk rfl
  have c3 := cell_of w b 3 _ 130 _ h.blk rfl
  have c4 := cell_of w b 4 _ 130 _ h.blk rfl
  have c5 := cell_of w b 5 _ 130 _ h.blk rfl
  have c6 := cell_of w b 6 _ 130 _ h.blk rfl
  have c7 := cell_of w b 7 _ 130 _ h.blk rfl
  have c8 := cell_of w b 8 _ 130 _ h.blk rfl
  have c9 := cell_of w b 9 _ 130 _ h.blk rfl
  have hbw := lt_of h.blk
  have hrv : ∃ p n c, rv = .slice p n c := by obtain ⟨p, c, e, _⟩ := h.rs.ex; exact ⟨p, _, c, e⟩
  have hsv : ∃ p n c, sv = .slice p n c := by obtain ⟨p, c, e, _⟩ := h.ss.ex; exact ⟨p, _, c, e⟩
  have htv : ∃ p n c, tv = .slice p n c := by rcases h.ts with ⟨e, _⟩ | ⟨ad, c, e, _⟩ <;> exact ⟨_, _, _, e⟩
  obtain ⟨rp, rn, rc, rfl⟩ := hrv
  obtain ⟨sp, sn, sc', rfl⟩ := hsv
  obtain ⟨tp, tn, tcp, rfl⟩ := htv
  have HH : Hid _ := h
  have hl := h.bl
  unfold room at hl
  clear h
  go_enter Tryz.func83, Tryz.ntmps83
  go_wp2
  go_loopw [15] (fun i wr => ∃ (k : Nat) (v : Value) (gs : List (Nat × Nat)), k ≤ bs.length ∧ i = .int .i64 (k : Int) ∧ CR w wr v (.slice rp rn rc) (.slice sp sn sc') m (.slice tp tn tcp) (padB (bs.take k)) gs) (fun i _ => bs.length - (intOf i).toNat)
  case atStart => exact ⟨0, _, [], by omega, rfl, CR.start w _ _ m _⟩
  case round =>
    clear c0 c1 c2 c3 c4 c5 c6 c7 c8 c9
    obtain ⟨k, v, gs, hk, rfl, hC⟩ := hrel
    by_cases hlt : k < bs.length
    · have i1 : (k : Int) < bs.length := by omega
      obtain ⟨bb, o, dv, rfl, e1, e2, e3, e4⟩ := HH.out.bn.below hC.bel k bs[k] (List.getElem?_eq_getElem hlt)
      have hdl := HH.out.dl bs[k] (List.getElem_mem hlt)
      have htk : padB (bs.take (k + 1)) = padB (bs.take k) ++ [((bs[k]).1, padN 16384 (bs[k]).2)] := by rw [List.take_succ_eq_append_getElem hlt, padB_snoc]
      generalize bs[k] = t at *
      have hbL : Below wr.heap.size wr (wr.alloc (.cells #[.int .i64 t.1, dv] 82)).drew := ((Below.refl _ _).alloc (Nat.le_refl _) _).drew
      have hv2 : (wr.alloc (.cells #[.int .i64 t.1, dv] 82)).drew.heap[wr.heap.size]? = some (.cells [.int .i64 t.1, dv].toArray 82 (0, 0)) := heap_alloc_new wr _
      have hfu := full_any dv t.2 16384 (by omega) hdl (wr.alloc (.cells #[.int .i64 t.1, dv] 82)).drew (Sl.below e3 hbL)
      have hN := hC.siz
      have hz1 : (wr.alloc (.cells #[.int .i64 t.1, dv] 82)).drew.heap.size = wr.heap.size + 1 := by simp
      have hne : wr.heap.size ≠ w.heap.size := by omega
      have cN : (wr.alloc (.cells #[.int .i64 t.1, dv] 82)).cell? ⟨w.heap.size, 0, none⟩ = some v := cell_of _ _ 0 _ 130 _ ((Below.heap_alloc wr _ _ (by omega)).trans hC.blk) rfl
      have s1 : (wr.alloc (.cells #[.int .i64 t.1, dv] 82)).drew.cell? ⟨wr.heap.size, 0, none⟩ = some (.int .i64 t.1) ∧ (wr.alloc (.cells #[.int .i64 t.1, dv] 82)).drew.cell? ⟨wr.heap.size, 1, none⟩ = some dv := ⟨cell_of _ _ 0 _ 82 _ hv2 rfl, cell_of _ _ 1 _ 82 _ hv2 rfl⟩
      obtain ⟨vp, vc, hvf⟩ := own_form hC.banks.row
      subst hvf
      have hlk : (padB (bs.take k)).length = k := by simp [padB]; omega
      rw [hlk] at hC cN
      have hend : ∀ w2 : World, Below (wr.alloc (.cells #[.int .i64 t.1, dv] 82)).drew.heap.size (wr.alloc (.cells #[.int .i64 t.1, dv] 82)).drew w2 → B5 w2 (wr.heap.size + 1) (padN 16384 t.2) → w2.heap.size = wr.heap.size + 1 + 1 →
          w2.cell? ⟨w.heap.size, 0, none⟩ = some (.slice vp k vc) ∧ (w2.cell? ⟨wr.heap.size, 0, none⟩ = some (.int .i64 t.1) ∧ w2.cell? ⟨wr.heap.size, 1, none⟩ = some dv) ∧
          ((w2.alloc (.cells #[.int .i64 t.1, .slice (some ⟨wr.heap.size + 1, 0, none⟩) 16384 16384] 82)).cell? ⟨w.heap.size, 0, none⟩ = some (.slice vp k vc)) ∧
          ((w2.alloc (.cells #[.int .i64 t.1, .slice (some ⟨wr.heap.size + 1, 0, none⟩) 16384 16384] 82)).cell? ⟨wr.heap.size, 0, none⟩ = some (.int .i64 t.1) ∧ (w2.alloc (.cells #[.int .i64 t.1, .slice (some ⟨wr.heap.size + 1, 0, none⟩) 16384 16384] 82)).cell? ⟨wr.heap.size, 1, none⟩ = some dv) ∧
          (w2.alloc (.cells #[.int .i64 t.1, .slice (some ⟨wr.heap.size + 1, 0, none⟩) 16384 16384] 82)).ownsRow (w.heap.size + 1) 82 2 (.slice vp k vc) k (bcs (padB (bs.take k)) gs) ∧
          Cs (w2.alloc (.cells #[.int .i64 t.1, .slice (some ⟨wr.heap.size + 1, 0, none⟩) 16384 16384] 82)) (.slice (some ⟨w2.heap.size, 0, none⟩) 1 1) 2 1 (bc (t.1, padN 16384 t.2) (wr.heap.size + 1, 16384)) ∧
          w.heap.size + 1 ≤ (w2.alloc (.cells #[.int .i64 t.1, .slice (some ⟨wr.heap.size + 1, 0, none⟩) 16384 16384] 82)).heap.size ∧
          (∀ v' w4, w4.ownsRow (w.heap.size + 1) 82 2 v' (k + 1) (bcs (padB (bs.take k)) gs ++ bc (t.1, padN 16384 t.2) (wr.heap.size + 1, 16384)) → Grew (w2.alloc (.cells #[.int .i64 t.1, .slice (some ⟨wr.heap.size + 1, 0, none⟩) 16384 16384] 82)) w4 (.slice vp k vc) v' →
            (w4.cell? ⟨wr.heap.size, 0, none⟩ = some (.int .i64 t.1) ∧ w4.cell? ⟨wr.heap.size, 1, none⟩ = some dv) ∧ w4.cell? ⟨w.heap.size, 0, none⟩ = some (.slice vp k vc) ∧ w4.frozen? ⟨w.heap.size, 0, none⟩ = false ∧
            CR w (w4.setCell ⟨w.heap.size, 0, none⟩ v') v' (.slice rp rn rc) (.slice sp sn sc') m (.slice tp tn tcp) (padB (bs.take (k + 1))) (gs ++ [(wr.heap.size + 1, 16384)])) := by
        intro w2 hb2 h52 hz2
        have kp : ∀ j, j < wr.heap.size + 1 → w2.heap[j]? = (wr.alloc (.cells #[.int .i64 t.1, dv] 82)).drew.heap[j]? := fun j hj => hb2.block j (by omega)
        have kw : ∀ j, j < wr.heap.size → w2.heap[j]? = wr.heap[j]? := fun j hj => (kp j (by omega)).trans (Below.heap_alloc wr _ j hj)
        have b2 := (kw w.heap.size (by omega)).trans hC.blk
        have v2 := (kp wr.heap.size (by omega)).trans hv2
        have al : ∀ j, j < w2.heap.size → (w2.alloc (.cells #[.int .i64 t.1, .slice (some ⟨wr.heap.size + 1, 0, none⟩) 16384 16384] 82)).heap[j]? = w2.heap[j]? := fun j hj => Below.heap_alloc w2 _ j hj
        have b3 := (al w.heap.size (by omega)).trans b2
        have v3 := (al wr.heap.size (by omega)).trans v2
        have hln : (padN 16384 t.2).length = 16384 := padN_len _ _ hdl
        refine ⟨cell_of _ _ 0 _ 130 _ b2 rfl, ⟨cell_of _ _ 0 _ 82 _ v2 rfl, cell_of _ _ 1 _ 82 _ v2 rfl⟩, cell_of _ _ 0 _ 130 _ b3 rfl, ⟨cell_of _ _ 0 _ 82 _ v3 rfl, cell_of _ _ 1 _ 82 _ v3 rfl⟩, ?_, ?_, by simp; omega, ?_⟩
        · have := hC.banks.row
          rw [hlk] at this
          exact own_kept this fun g e hg => (al g (by omega)).trans (kw g hg)
        · refine .inr ⟨⟨w2.heap.size, 0, none⟩, 1, rfl, rfl, ?_, by intro x hx; simp [bc] at hx; rcases hx with rfl | rfl <;> rfl⟩
          intro j x hj
          have hn : (w2.alloc (.cells #[.int .i64 t.1, .slice (some ⟨wr.heap.size + 1, 0, none⟩) 16384 16384] 82)).heap[w2.heap.size]? = some (.cells (bc (t.1, padN 16384 t.2) (wr.heap.size + 1, 16384)).toArray 82 (0, 0)) := by
            simp only [bc, hln]; exact heap_alloc_new w2 _
          have e : (⟨w2.heap.size, 0, none⟩ : Addr).add j = ⟨w2.heap.size, j, none⟩ := by rw [Addr.add_lit]; simp
          rw [e]
          exact cell_of _ _ _ _ 82 x hn hj
        · intro v' w4 ho hg
          have nv : ∀ j, j ≤ w.heap.size ∨ j = wr.heap.size → some j ≠ (Value.slice vp k vc).ownBlock := by
            intro j hj e
            rcases hj with hj | hj
            · have := (hC.banks.row.lt j e.symm).1; omega
            · have := (hC.banks.row.lt j e.symm).2; omega
          have b4 := (hg.block w.heap.size (by simp; omega) (nv _ (.inl (Nat.le_refl _)))).trans b3
          have v4 := (hg.block wr.heap.size (by simp; omega) (nv _ (.inr rfl))).trans v3
          refine ⟨⟨cell_of _ _ 0 _ 82 _ v4 rfl, cell_of _ _ 1 _ 82 _ v4 rfl⟩, cell_of _ _ 0 _ 130 _ b4 rfl, frozen_of _ _ 0 _ 130 b4, ?_⟩
          rw [htk]
          exact hC.step (t.1, padN 16384 t.2) (wr.heap.size + 1) _ _ hb2 hz1.symm h52 hln hg (by rw [hlk]; exact ho)
      obtain ⟨dp, dc, rfl, _⟩ := e3.ex
      rw [hz1] at hfu
      have hk1 : (k + 1) * 32 ≤ room := by unfold room; omega
      have hk2 : k + 1 ≤ maxLen := by unfold maxLen; omega
      have HE : Hid _ := hend
      have HZ : Hid _ := hz1
      clear hend hC e3 hv2 hbL htk hlk hz1
      go_wp2_with fail
      obtain ⟨s1a, s1b⟩ := s1
      go_region_law
        (first
          | (refine step_append_row rfl (.tmp 20) (.tmp 27) 83 82 (.agg #[.int .i64 0, .slice none 0 0]) 2 32 Tryz.underlying83 info37 rfl (by decide) rfl (w.heap.size + 1) (.slice vp k vc) k (bcs (padB (bs.take k)) gs) (by simp [Act.eval]) hown (.slice (some ⟨w2.heap.size, 0, none⟩) 1 1) 1 (bc (t.1, padN 16384 t.2) (wr.heap.size + 1, 16384)) (by simp [Act.eval]) hcs hk1 hk2 hwz ?_; intro v' w4 ho hg; obtain ⟨g9, cap9, rfl⟩ := own_pos ho (Nat.succ_pos k); obtain ⟨s4, cN4, zN4, hCR⟩ := hE2 (.slice (some ⟨g9, 0, none⟩) (k + 1) cap9) w4 ho hg; clear hE2 ho hg hown hcs s2a s2b cN2 cN3)
          | (refine step_full rfl (.tmp 24) (.const (.int .i64 16384)) rfl (.slice dp t.2.length dc) (.int .i64 16384) (by simp [Act.eval]) (by simp [Act.eval]) hfu ?_; rintro e w2 ⟨rfl, h52, hb2, hz2⟩; refine ⟨_, rfl, ?_⟩; obtain ⟨cN2, ⟨s2a, s2b⟩, cN3, s3, hown, hcs, hwz, hE2⟩ := HE.out w2 (by rw [HZ.out]; exact hb2) h52 hz2; clear hfu HE h52 hb2 hz2 s3 s1a s1b))
      all_goals
        have HC : Hid _ := hCR
        clear hCR
        go_wp2
        go_roundw
        case rel =>
          first
            | exact ⟨k + 1, _, _, by omega, by go_num, HC.out⟩
            | ((repeat apply Exists.intro); refine ⟨⟨k + 1, _, _, by omega, ?_, HC.out⟩, rfl⟩; go_num)
        case measure => simp [intOf]; omega
    · obtain rfl : k = bs.length := by omega
      rw [List.take_length] at hC
      have hR3 := HH.out.below hC.bel
      have k1 := cell_of wr b 1 _ 130 _ hR3.blk rfl
      have hsz := hC.siz
      have hf1 := full_any (.slice rp rn rc) m.ram 16384 (by omega) hR3.rl wr hR3.rs
      have g3 := hC.blk
      have HC : Hid _ := hC
      have HB3 : Hid _ := hC.bel
      clear hC hR3
      go_wp2_with fail
      refine hf1.mono ?_
      rintro e w4 ⟨rfl, h54, hb4, hz4⟩
      have g4 := (hb4.block w.heap.size (by omega)).trans g3
      have k4 := cell_of w4 w.heap.size 1 _ 130 _ g4 rfl
      have z4 := frozen_of w4 w.heap.size 1 _ 130 g4
      have hB4 : Below w.heap.size w w4 := HB3.out.trans (hb4.mono (by omega))
      obtain ⟨w5, hw5⟩ : ∃ w5, w4.setCell ⟨w.heap.size, 1, none⟩ (.slice (some ⟨wr.heap.size, 0, none⟩) 16384 16384) = w5 := ⟨_, rfl⟩
      have hB5 : Below w.heap.size w w5 := by rw [← hw5]; exact hB4.setCell (p := ⟨w.heap.size, 1, none⟩) (Nat.le_refl _) _
      have hz5 : w5.heap.size = w4.heap.size := by rw [← hw5, setCell_size]
      have g5 := setCell_heap w4 w.heap.size 1 _ 130 (.slice (some ⟨wr.heap.size, 0, none⟩) 16384 16384) g4
      rw [hw5] at g5
      have hR5 := HH.out.below hB5
      have k5 := cell_of w5 b 2 _ 130 _ hR5.blk rfl
      have hf2 := full_any (.slice sp sn sc') m.scr 3072 (by omega) hR5.sl w5 hR5.ss
      have H54 : Hid _ := h54
      have Hb4 : Hid _ := hb4
      have HB5 : Hid _ := hB5
      have HW5 : Hid _ := hw5.symm
      have HZ4 : Hid _ := hz4
      clear hf1 h54 hb4 hB4 hB5 hR5 g3 g4 hz4 k1
      go_wp2_with fail
      clear hw5 k4 z4
      refine hf2.mono ?_
      rintro e w6 ⟨rfl, h56, hb6, hz6⟩
      have g6 := (hb6.block w.heap.size (by have := HZ4.out; omega)).trans g5
      have k6 := cell_of w6 w.heap.size 2 _ 130 _ g6 rfl
      have z6 := frozen_of w6 w.heap.size 2 _ 130 g6
      have hB6 : Below w.heap.size w w6 := HB5.out.trans (hb6.mono (by have := HZ4.out; omega))
      obtain ⟨w7, hw7⟩ : ∃ w7, w6.setCell ⟨w.heap.size, 2, none⟩ (.slice (some ⟨w5.heap.size, 0, none⟩) 3072 3072) = w7 := ⟨_, rfl⟩
      have hB7 : Below w.heap.size w w7 := by rw [← hw7]; exact hB6.setCell (p := ⟨w.heap.size, 2, none⟩) (Nat.le_refl _) _
      have hR7 := HH.out.below hB7
      have hb7a : Below w7.heap.size w7 (w7.alloc (.cells #[] 53)) := (Below.refl _ _).alloc (Nat.le_refl _) _
      have k7 := cell_of (w7.alloc (.cells #[] 53)) b 9 _ 130 _ ((hR7.below hb7a).blk) rfl
      have hr0 : (w7.alloc (.cells #[] 53)).ownsRow w7.heap.size 53 3 (.slice (some ⟨w7.heap.size, 0, none⟩) 0 0) 0 [] :=
        ⟨rfl, .inr ⟨w7.heap.size, 0, #[], rfl, Nat.le_refl _, heap_alloc_new w7 _, Nat.le_refl _, by decide, by simp, by simp⟩⟩
      have hcs := hR7.ts.below hb7a
      have htl := hR7.tl
      have hfin := fun tv' => copy_end (tv' := tv') HC.out Hb4.out H54.out HZ4.out HW5.out hb6 h56 hz6 hw7.symm HH.out.rl HH.out.sl
      have HF : Hid _ := hfin
      clear hf2 h56 hb6 hB6 hB7 hR7 g5 g6 hz6 hz5 k5 hfin
      go_wp2_with (first | (at_builtin; refine wpList_append_row _ rfl _ _ 50 53 _ 3 16 Tryz.underlying50 info90 rfl (by decide) rfl w7.heap.size _ 0 [] rfl hr0 _ m.tones.length (tc m.tones) rfl hcs (by unfold room; omega) (by unfold maxLen; omega) hb7a.size ?_))
      intro v' w8 hr8 hg8
      have hb8 : Below w7.heap.size w7 w8 := hg8.belowAll (fun g e => (hr0.lt g e).1) hb7a (Nat.le_refl _)
      obtain ⟨tp2, tc2, rfl⟩ := own_form hr8
      (try simp only [Nat.zero_add, List.nil_append] at hr8)
      obtain ⟨k8, z8, hRes, hBel⟩ := HF.out _ w8 hb8 hr8
      (try simp only [Nat.zero_add])
      clear hr8 hg8 hb8 hr0 hcs hb7a k7 HF
      go_wp2
      go_ret
      exact ⟨_, rfl, hRes, hBel⟩
end Go.Proofs.YtgponcjjnjpfkaaGreat.M
/-! MemRestores: the image that is tried. -/
namespace Go.Proofs.YtgponcjjnjpfkaaGreat.M
open Go.RowKit
open Go.Proofs
set_option linter.unusedVariables false
set_option linter.unusedSimpArgs false
/-! ### The banks in order are the banks -/
/-! ### The image in the box -/
theorem B5.sl {W : World} {g : Nat} {l : List UInt8} {n : Nat} (h : B5 W g l) (hn : l.length = n) : Sl W (.slice (some ⟨g, 0, none⟩) n n) l := by
  refine .inr ⟨⟨g, 0, none⟩, n, by rw [hn], by omega, fun j x hj => ?_⟩
  rw [Addr.add_lit, Nat.zero_add]
  exact cell_of W g _ _ 5 _ h ((bv_get l _ _).2 ⟨x, hj, rfl⟩)
end Go.Proofs.YtgponcjjnjpfkaaGreat.M
