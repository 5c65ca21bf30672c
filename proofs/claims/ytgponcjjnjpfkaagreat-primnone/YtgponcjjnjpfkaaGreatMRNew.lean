import Derived.Test.YtgponcjjnjpfkaaGreatMRCopy
/-! The reference: New. -/
namespace Go.Proofs.YtgponcjjnjpfkaaGreat.M
open Go.RowKit
open Go.Proofs
set_option linter.unusedVariables false
set_option linter.unusedSimpArgs false
set_option maxHeartbeats 2000000
set_option maxRecDepth 100000
theorem rnew_no (p : Option Addr) (c : Nat) (bs : List (Int × List UInt8)) (hl : bs.length ≤ room) (w : World) (h : BnS w p bs) (hm : mayB (-1) bs = false) :
    Calls Tryz.prog 44 #[.slice p bs.length c] w fun e w' => e = .returned (.tuple #[.pointer none, .int .i64 2]) ∧ Below w.heap.size w w' := by
  have hmy := mayBanks_any p c bs hl w h
  rw [hm] at hmy
  clear h hm
  go_enter Tryz.func44, Tryz.ntmps44
  go_wp2_with fail
  refine hmy.mono ?_
  rintro e w2 ⟨rfl, hb⟩
  have HB : Hid _ := hb
  clear hb hmy
  go_wp2
  go_ret2
  exact ⟨rfl, HB.out⟩
/-- A memory of nothing. -/
def ms0 : MS := ⟨fl 16384 [] 0, fl 3072 [] 0, 0, 0, 0, 0, 0, 0, [], fun _ => none⟩
/-- Ahead of the banks: the two lists of a new memory. -/
structure NW (w wM : World) (gr gc : Nat) : Prop where
  ram : B5 wM gr ms0.ram
  scr : B5 wM gc ms0.scr
  ne : gr ≠ gc
  lr : w.heap.size ≤ gr
  lc : w.heap.size ≤ gc
  bel : Below w.heap.size w wM
theorem nw_a (w : World) : NW w ((w.alloc (.cells (bv (fl 16384 [] 0)).toArray 5)).alloc (.cells (bv (fl 3072 [] 0)).toArray 5)) w.heap.size (w.heap.size + 1) := by
  refine ⟨(Below.heap_alloc _ _ _ (by simp)).trans (heap_alloc_new w _), ?_, by omega, Nat.le_refl _, by omega, ((Below.refl _ w).alloc (Nat.le_refl _) _).alloc (by simp) _⟩
  have := heap_alloc_new (w.alloc (.cells (bv (fl 16384 [] 0)).toArray 5)) (.cells (bv (fl 3072 [] 0)).toArray 5)
  have e : (w.alloc (.cells (bv (fl 16384 [] 0)).toArray 5)).heap.size = w.heap.size + 1 := by simp
  rw [e] at this; exact this
theorem nw_b (w : World) : NW w ((w.alloc (.cells (bv (fl 3072 [] 0)).toArray 5)).alloc (.cells (bv (fl 16384 [] 0)).toArray 5)) (w.heap.size + 1) w.heap.size := by
  refine ⟨?_, (Below.heap_alloc _ _ _ (by simp)).trans (heap_alloc_new w _), by omega, by omega, Nat.le_refl _, ((Below.refl _ w).alloc (Nat.le_refl _) _).alloc (by simp) _⟩
  have := heap_alloc_new (w.alloc (.cells (bv (fl 3072 [] 0)).toArray 5)) (.cells (bv (fl 16384 [] 0)).toArray 5)
  have e : (w.alloc (.cells (bv (fl 3072 [] 0)).toArray 5)).heap.size = w.heap.size + 1 := by simp
  rw [e] at this; exact this
end Go.Proofs.YtgponcjjnjpfkaaGreat.M
namespace Go.Proofs.YtgponcjjnjpfkaaGreat.M
open Go.RowKit
open Go.Proofs
set_option linter.unusedVariables false
theorem new_end {w w2 wM wr : World} {gr gc : Nat} {v : Value} {bs : List (Int × List UInt8)} {gs : List (Nat × Nat)} (hb : Below w.heap.size w w2) (hNW : NW w2.drew wM gr gc) (hBw : Below w.heap.size w wr)
    (hC : CR wM wr v (.slice (some ⟨gr, 0, none⟩) 16384 16384) (.slice (some ⟨gc, 0, none⟩) 3072 3072) ms0 (.slice none 0 0) bs gs) :
    HasR wr (fun k => w.heap.size ≤ k) wM.heap.size bs ms0 ∧ Below w.heap.size w wr := by
  have z1 := hb.size
  have z2 : w2.heap.size ≤ wM.heap.size := hNW.bel.size
  have lr : w2.heap.size ≤ gr := hNW.lr
  have lc : w2.heap.size ≤ gc := hNW.lc
  have hr := lt_of hNW.ram
  have hc := lt_of hNW.scr
  have hmem : ∀ y ∈ gs, wM.heap.size + 1 ≤ y.1 := by
    intro y hy
    obtain ⟨i, hi, e⟩ := List.mem_iff_getElem.1 hy
    have hb' : i < bs.length := by rw [← hC.banks.len]; exact hi
    exact (hC.banks.dat i bs[i] y (List.getElem?_eq_getElem hb') (by rw [List.getElem?_eq_getElem hi, e])).2.2.2
  refine ⟨⟨v, gr, gc, gs, .slice none 0 0, hC.blk, ⟨hC.banks.len, own_mono hC.banks.row (Nat.zero_le _), fun i t g a c => by obtain ⟨x1, x2, x3, _⟩ := hC.banks.dat i t g a c; exact ⟨x1, x2, x3, Nat.zero_le _⟩, hC.banks.nd⟩, (hC.bel.block _ hr).trans hNW.ram, (hC.bel.block _ hc).trans hNW.scr, fl_len 16384 [] 0 (by simp) (by simp), fl_len 3072 [] 0 (by simp) (by simp), World.ownsRow_nil _ _ _ _, ?_, ?_, hNW.ne, ?_, ?_, ?_, ?_, ?_, ?_⟩, hBw⟩
  · intro y hy; have := hmem y hy; omega
  · intro y hy; have := hmem y hy; omega
  · show w.heap.size ≤ wM.heap.size; omega
  · intro g e; have := (hC.banks.row.lt g e).1; show w.heap.size ≤ g; omega
  · intro y hy; have := hmem y hy; show w.heap.size ≤ y.1; omega
  · show w.heap.size ≤ gr; omega
  · show w.heap.size ≤ gc; omega
  · intro g e; simp [Value.ownBlock] at e
set_option maxHeartbeats 4000000
set_option maxRecDepth 100000
theorem rnew_yes (p : Option Addr) (c : Nat) (bs : List (Int × List UInt8)) (hl : bs.length * 32 ≤ room) (w : World) (h : BnS w p bs) (hm : mayB (-1) bs = true) (hd : ∀ t ∈ bs, t.2.length ≤ 16384) :
    Calls Tryz.prog 44 #[.slice p bs.length c] w fun e w' => ∃ b, e = .returned (.tuple #[.pointer (some ⟨b, 0, none⟩), .int .i64 0]) ∧ HasR w' (fun k => w.heap.size ≤ k) b (padB bs) ms0 ∧ Below w.heap.size w w' := by
  have hmy := mayBanks_any p c bs (by omega) w h
  rw [hm] at hmy
  have hmk1 : ∀ W : World, (Instr.makeSlice 80 (.int .i64 16384) (.int .i64 16384)).run Tryz.prog W = .ok (.slice (some ⟨W.heap.size, 0, none⟩) 16384 16384) (W.alloc (.cells (bv (fl 16384 [] 0)).toArray 5)) := fun W => by
    rw [← made_eq 16384 []]; exact run_make_row' (P := Tryz.prog) 80 5 (.int .u8 0) 1 Tryz.underlying80 info5 rfl .i64 .i64 16384 (by omega) (by omega) W
  have hmk2 : ∀ W : World, (Instr.makeSlice 80 (.int .i64 3072) (.int .i64 3072)).run Tryz.prog W = .ok (.slice (some ⟨W.heap.size, 0, none⟩) 3072 3072) (W.alloc (.cells (bv (fl 3072 [] 0)).toArray 5)) := fun W => by
    rw [← made_eq 3072 []]; exact run_make_row' (P := Tryz.prog) 80 5 (.int .u8 0) 1 Tryz.underlying80 info5 rfl .i64 .i64 3072 (by omega) (by omega) W
  have HH : Hid _ := h
  clear h hm
  unfold room at hl
  go_enter Tryz.func44, Tryz.ntmps44
  go_wp2_with fail
  refine hmy.mono ?_
  rintro e w2 ⟨rfl, hb⟩
  have HB : Hid _ := hb
  clear hb hmy
  go_wp2_with fail
  go_region
  all_goals
    go_wp2_with fail
    clear hmk1 hmk2
    go_loopw [16] (fun i wr => ∃ (wM : World) (k gr gc : Nat) (v : Value) (gs : List (Nat × Nat)), wM.heap.size = w2.heap.size + 1 + 1 ∧ NW w2.drew wM gr gc ∧ k ≤ bs.length ∧ i = .int .i64 (k : Int) ∧ CR wM wr v (.slice (some ⟨gr, 0, none⟩) 16384 16384) (.slice (some ⟨gc, 0, none⟩) 3072 3072) ms0 (.slice none 0 0) (padB (bs.take k)) gs) (fun i _ => bs.length - (intOf i).toNat)
    case atStart =>
      first
        | exact ⟨_, 0, _, _, _, [], by simp, nw_a w2.drew, by omega, rfl, CR.start ((w2.drew.alloc (.cells (bv (fl 16384 [] 0)).toArray 5)).alloc (.cells (bv (fl 3072 [] 0)).toArray 5)) _ _ ms0 _⟩
        | exact ⟨_, 0, _, _, _, [], by simp, nw_b w2.drew, by omega, rfl, CR.start ((w2.drew.alloc (.cells (bv (fl 3072 [] 0)).toArray 5)).alloc (.cells (bv (fl 16384 [] 0)).toArray 5)) _ _ ms0 _⟩
    case round =>
      obtain ⟨wM, k, gr, gc, v, gs, hNM, hNW, hk, rfl, hC⟩ := hrel
      rw [← hNM]
      have HNM : Hid _ := hNM
      have HNW : Hid _ := hNW
      have hBM : Below w.heap.size w wM := HB.out.drew.trans (hNW.bel.mono HB.out.size)
      have hBw : Below w.heap.size w wr := hBM.trans (hC.bel.mono hBM.size)
      clear hNM hNW hBM
      by_cases hlt : k < bs.length
      · have i1 : (k : Int) < bs.length := by omega
        obtain ⟨bb, o, dv, rfl, e1, e2, e3, e4⟩ := (BnS.below HH.out hBw) k bs[k] (List.getElem?_eq_getElem hlt)
        have hdl := hd bs[k] (List.getElem_mem hlt)
        clear hBw
        have htk : padB (bs.take (k + 1)) = padB (bs.take k) ++ [((bs[k]).1, padN 16384 (bs[k]).2)] := by rw [List.take_succ_eq_append_getElem hlt, padB_snoc]
        generalize bs[k] = t at *
        have hbL : Below wr.heap.size wr (wr.alloc (.cells #[.int .i64 t.1, dv] 82)).drew := ((Below.refl _ _).alloc (Nat.le_refl _) _).drew
        have hv2 : (wr.alloc (.cells #[.int .i64 t.1, dv] 82)).drew.heap[wr.heap.size]? = some (.cells [.int .i64 t.1, dv].toArray 82 (0, 0)) := heap_alloc_new wr _
        have hfu := full_any dv t.2 16384 (by omega) hdl (wr.alloc (.cells #[.int .i64 t.1, dv] 82)).drew (Sl.below e3 hbL)
        have hN := hC.siz
        have hz1 : (wr.alloc (.cells #[.int .i64 t.1, dv] 82)).drew.heap.size = wr.heap.size + 1 := by simp
        have hne : wr.heap.size ≠ wM.heap.size := by omega
        have cN : (wr.alloc (.cells #[.int .i64 t.1, dv] 82)).cell? ⟨wM.heap.size, 0, none⟩ = some v := cell_of _ _ 0 _ 130 _ ((Below.heap_alloc wr _ _ (by omega)).trans hC.blk) rfl
        have s1 : (wr.alloc (.cells #[.int .i64 t.1, dv] 82)).drew.cell? ⟨wr.heap.size, 0, none⟩ = some (.int .i64 t.1) ∧ (wr.alloc (.cells #[.int .i64 t.1, dv] 82)).drew.cell? ⟨wr.heap.size, 1, none⟩ = some dv := ⟨cell_of _ _ 0 _ 82 _ hv2 rfl, cell_of _ _ 1 _ 82 _ hv2 rfl⟩
        obtain ⟨vp, vc, hvf⟩ := own_form hC.banks.row
        subst hvf
        have hlk : (padB (bs.take k)).length = k := by simp [padB]; omega
        rw [hlk] at hC cN
        have hend : ∀ w2 : World, Below (wr.alloc (.cells #[.int .i64 t.1, dv] 82)).drew.heap.size (wr.alloc (.cells #[.int .i64 t.1, dv] 82)).drew w2 → B5 w2 (wr.heap.size + 1) (padN 16384 t.2) → w2.heap.size = wr.heap.size + 1 + 1 →
            w2.cell? ⟨wM.heap.size, 0, none⟩ = some (.slice vp k vc) ∧ (w2.cell? ⟨wr.heap.size, 0, none⟩ = some (.int .i64 t.1) ∧ w2.cell? ⟨wr.heap.size, 1, none⟩ = some dv) ∧
            ((w2.alloc (.cells #[.int .i64 t.1, .slice (some ⟨wr.heap.size + 1, 0, none⟩) 16384 16384] 82)).cell? ⟨wM.heap.size, 0, none⟩ = some (.slice vp k vc)) ∧
            ((w2.alloc (.cells #[.int .i64 t.1, .slice (some ⟨wr.heap.size + 1, 0, none⟩) 16384 16384] 82)).cell? ⟨wr.heap.size, 0, none⟩ = some (.int .i64 t.1) ∧ (w2.alloc (.cells #[.int .i64 t.1, .slice (some ⟨wr.heap.size + 1, 0, none⟩) 16384 16384] 82)).cell? ⟨wr.heap.size, 1, none⟩ = some dv) ∧
            (w2.alloc (.cells #[.int .i64 t.1, .slice (some ⟨wr.heap.size + 1, 0, none⟩) 16384 16384] 82)).ownsRow (wM.heap.size + 1) 82 2 (.slice vp k vc) k (bcs (padB (bs.take k)) gs) ∧
            Cs (w2.alloc (.cells #[.int .i64 t.1, .slice (some ⟨wr.heap.size + 1, 0, none⟩) 16384 16384] 82)) (.slice (some ⟨w2.heap.size, 0, none⟩) 1 1) 2 1 (bc (t.1, padN 16384 t.2) (wr.heap.size + 1, 16384)) ∧
            wM.heap.size + 1 ≤ (w2.alloc (.cells #[.int .i64 t.1, .slice (some ⟨wr.heap.size + 1, 0, none⟩) 16384 16384] 82)).heap.size ∧
            (∀ v' w4, w4.ownsRow (wM.heap.size + 1) 82 2 v' (k + 1) (bcs (padB (bs.take k)) gs ++ bc (t.1, padN 16384 t.2) (wr.heap.size + 1, 16384)) → Grew (w2.alloc (.cells #[.int .i64 t.1, .slice (some ⟨wr.heap.size + 1, 0, none⟩) 16384 16384] 82)) w4 (.slice vp k vc) v' →
              (w4.cell? ⟨wr.heap.size, 0, none⟩ = some (.int .i64 t.1) ∧ w4.cell? ⟨wr.heap.size, 1, none⟩ = some dv) ∧ w4.cell? ⟨wM.heap.size, 0, none⟩ = some (.slice vp k vc) ∧ w4.frozen? ⟨wM.heap.size, 0, none⟩ = false ∧
              CR wM (w4.setCell ⟨wM.heap.size, 0, none⟩ v') v' (.slice (some ⟨gr, 0, none⟩) 16384 16384) (.slice (some ⟨gc, 0, none⟩) 3072 3072) ms0 (.slice none 0 0) (padB (bs.take (k + 1))) (gs ++ [(wr.heap.size + 1, 16384)])) := by
          intro w2 hb2 h52 hz2
          have kp : ∀ j, j < wr.heap.size + 1 → w2.heap[j]? = (wr.alloc (.cells #[.int .i64 t.1, dv] 82)).drew.heap[j]? := fun j hj => hb2.block j (by omega)
          have kw : ∀ j, j < wr.heap.size → w2.heap[j]? = wr.heap[j]? := fun j hj => (kp j (by omega)).trans (Below.heap_alloc wr _ j hj)
          have b2 := (kw wM.heap.size (by omega)).trans hC.blk
          have v2 := (kp wr.heap.size (by omega)).trans hv2
          have al : ∀ j, j < w2.heap.size → (w2.alloc (.cells #[.int .i64 t.1, .slice (some ⟨wr.heap.size + 1, 0, none⟩) 16384 16384] 82)).heap[j]? = w2.heap[j]? := fun j hj => Below.heap_alloc w2 _ j hj
          have b3 := (al wM.heap.size (by omega)).trans b2
          have v3 := (al wr.heap.size (by omega)).trans v2
          have hln : (padN 16384 t.2).length = 16384 := padN_len _ _ hdl
          refine ⟨cell_of _ _ 0 _ 130 _ b2 rfl, ⟨cell_of _ _ 0 _ 82 _ v2 rfl, cell_of _ _ 1 _ 82 _ v2 rfl⟩, cell_of _ _ 0 _ 130 _ b3 rfl, ⟨cell_of _ _ 0 _ 82 _ v3 rfl, cell_of _ _ 1 _ 82 _ v3 rfl⟩, ?_, ?_, by simp; omega, ?_⟩
          · have := hC.banks.row
            rw [hlk] at this
            exact own_kept this fun g e hg => (al g (by omega)).trans (kw g hg)
          · refine .inr ⟨⟨w2.heap.size, 0, none⟩, 1, rfl, rfl, ?_, by intro x hx; simp [bc] at hx; rcases hx with rfl | rfl <;> rfl⟩
            intro j x hj
            have hn : (w2.alloc (.cells #[.int .i64 t.1, .slice (some ⟨wr.heap.size + 1, 0, none⟩) 16384 16384] 82)).heap[w2.heap.size]? = some (.cells (bc (t.1, padN 16384 t.2) (wr.heap.size + 1, 16384)).toArray 82 (0, 0)) := by
              simp only [bc, hln]; exact heap_alloc_new w2 _
            have e : (⟨w2.heap.size, 0, none⟩ : Addr).add j = ⟨w2.heap.size, j, none⟩ := by rw [Addr.add_lit]; simp
            rw [e]
            exact cell_of _ _ _ _ 82 x hn hj
          · intro v' w4 ho hg
            have nv : ∀ j, j ≤ wM.heap.size ∨ j = wr.heap.size → some j ≠ (Value.slice vp k vc).ownBlock := by
              intro j hj e
              rcases hj with hj | hj
              · have := (hC.banks.row.lt j e.symm).1; omega
              · have := (hC.banks.row.lt j e.symm).2; omega
            have b4 := (hg.block wM.heap.size (by simp; omega) (nv _ (.inl (Nat.le_refl _)))).trans b3
            have v4 := (hg.block wr.heap.size (by simp; omega) (nv _ (.inr rfl))).trans v3
            refine ⟨⟨cell_of _ _ 0 _ 82 _ v4 rfl, cell_of _ _ 1 _ 82 _ v4 rfl⟩, cell_of _ _ 0 _ 130 _ b4 rfl, frozen_of _ _ 0 _ 130 b4, ?_⟩
            rw [htk]
            exact hC.step (t.1, padN 16384 t.2) (wr.heap.size + 1) _ _ hb2 hz1.symm h52 hln hg (by rw [hlk]; exact ho)
        obtain ⟨dp, dc, rfl, _⟩ := e3.ex
        rw [hz1] at hfu
        have hk1 : (k + 1) * 32 ≤ room := by unfold room; omega
        have hk2 : k + 1 ≤ maxLen := by unfold maxLen; omega
        have HE : Hid _ := hend
        have HZ : Hid _ := hz1
        clear hend hC e3 hv2 hbL htk hlk hz1
        go_wp2_with fail
        obtain ⟨s1a, s1b⟩ := s1
        go_region_law
          (first
            | (refine step_append_row rfl (.tmp 24) (.tmp 31) 83 82 (.agg #[.int .i64 0, .slice none 0 0]) 2 32 Tryz.underlying83 info37 rfl (by decide) rfl (wM.heap.size + 1) (.slice vp k vc) k (bcs (padB (bs.take k)) gs) (by simp [Act.eval]) hown (.slice (some ⟨w2.heap.size, 0, none⟩) 1 1) 1 (bc (t.1, padN 16384 t.2) (wr.heap.size + 1, 16384)) (by simp [Act.eval]) hcs hk1 hk2 hwz ?_; intro v' w4 ho hg; obtain ⟨g9, cap9, rfl⟩ := own_pos ho (Nat.succ_pos k); obtain ⟨s4, cN4, zN4, hCR⟩ := hE2 (.slice (some ⟨g9, 0, none⟩) (k + 1) cap9) w4 ho hg; clear hE2 ho hg hown hcs s2a s2b cN2 cN3)
            | (refine step_full rfl (.tmp 28) (.const (.int .i64 16384)) rfl (.slice dp t.2.length dc) (.int .i64 16384) (by simp [Act.eval]) (by simp [Act.eval]) hfu ?_; rintro e w2 ⟨rfl, h52, hb2, hz2⟩; refine ⟨_, rfl, ?_⟩; obtain ⟨cN2, ⟨s2a, s2b⟩, cN3, s3, hown, hcs, hwz, hE2⟩ := HE.out w2 (by rw [HZ.out]; exact hb2) h52 hz2; clear hfu HE h52 hb2 hz2 s3 s1a s1b))
        all_goals
          have HC : Hid _ := hCR
          clear hCR
          go_wp2
          go_roundw
          case rel =>
            first
              | exact ⟨wM, k + 1, gr, gc, _, _, by rw [HNM.out], HNW.out, by omega, by go_num, HC.out⟩
              | (refine ⟨wM, k + 1, gr, gc, _, _, ?_, HNW.out, by omega, ?_, HC.out⟩; exact HNM.out; go_num)
          case measure => simp [intOf]; omega
      · obtain rfl : k = bs.length := by omega
        rw [List.take_length] at hC
        have hfin := new_end (w := w) HB.out HNW.out hBw hC
        have HF : Hid _ := hfin
        clear hfin hC hBw
        go_wp2
        go_ret2
        exact ⟨_, rfl, HF.out.1, HF.out.2⟩
end Go.Proofs.YtgponcjjnjpfkaaGreat.M
