import Derived.Test.YtcmaccefjlgbfaaPCopyKit
/-! Copy, walked. -/
namespace Go.Proofs.Ytcmaccefjlgbfaa
open Go.RowKit
open Go.Proofs
open Go.ChangeMaps (setBlock)
set_option linter.unusedVariables false
set_option linter.unusedSimpArgs false
theorem CP.start {w : World} {F : Nat → Prop} {b : Nat} {m : MS} {mb : Nat} {L : List (Nat × Nat)} {tv : Value} (h : MemP w F b m mb L tv) (wB wD wE : World) (hB : wB.heap[w.heap.size]? = some (.cells (mcells mb m tv).toArray 86 (0, 0))) (zB : wB.heap.size = w.heap.size + 1) (bB : Below w.heap.size w wB)
    (eD : wD = (wB.alloc (.map #[] 0)).setCell ⟨w.heap.size, 0, none⟩ (.map (some (w.heap.size + 1)))) (eE : wE = wD.alloc (.mapIter (some mb) L.length #[] L.length)) :
    CP w wE m mb L tv [] [] ∧ wD.heap[mb]? = some (.map (ents 0 L).toArray L.length) ∧ wD.heap.size = w.heap.size + 2 := by
  have c0 : (wB.alloc (.map #[] 0)).heap[w.heap.size]? = some (.cells (mcells mb m tv).toArray 86 (0, 0)) := (Below.heap_alloc _ _ _ (by omega)).trans hB
  have d0 : wD.heap[w.heap.size]? = some (.cells (mcells (w.heap.size + 1) m tv).toArray 86 (0, 0)) := by rw [eD, setCell_heap _ _ 0 _ 86 _ c0, mcells_set_0]
  have zD : wD.heap.size = w.heap.size + 2 := by rw [eD, setCell_size]; simp; omega
  have d1 : wD.heap[w.heap.size + 1]? = some (.map #[] 0) := by
    rw [eD, setCell_other _ _ _ _ _ (by omega), ← zB]; exact heap_alloc_new wB _
  have bD : Below w.heap.size w wD := by rw [eD]; exact (bB.alloc bB.size _).setCell (p := ⟨w.heap.size, 0, none⟩) (Nat.le_refl _) _
  have kE : ∀ k, k < wD.heap.size → wE.heap[k]? = wD.heap[k]? := fun k hk => by rw [eE]; exact Below.heap_alloc wD _ k hk
  have bE : Below w.heap.size w wE := by rw [eE]; exact bD.alloc (by omega) _
  refine ⟨⟨?_, by simp, ?_, bE, by simp, by simp⟩, (bD.block _ (lt_of h.map)).trans h.map, zD⟩
  · refine ⟨⟨h.wf.ram, h.wf.scr, h.wf.ch0, h.wf.ch1, h.wf.pad0, h.wf.pad1, h.wf.pitch0, h.wf.pitch1, h.wf.vol0, h.wf.vol1, h.wf.time0, h.wf.time1, by intro n l e; simp [visB] at e⟩, (kE _ (by omega)).trans d0, (kE _ (by omega)).trans d1, by simp, by simp, by simp, by simp, by intro n l e; simp [visB] at e, ?_, .inl (Nat.le_refl _), .inl (by omega), by simp, fun g e => .inr e⟩
    exact own_kept h.tones fun g e hg => bE.block g hg
  · rw [eE, ← zD]; exact heap_alloc_new wD _
theorem own_form0 {w : World} {B : Nat} {e : TypeId} {size : Nat} {v : Value} {n : Nat} {xs : List Value} (h : w.ownsRow B e size v n xs) : ∃ p cap, v = .slice p n cap := by
  rcases h.2 with ⟨h, e⟩ | ⟨g, cap, cur, h1, _⟩
  · exact ⟨none, 0, by rw [h, e]⟩
  · exact ⟨_, cap, h1⟩
set_option maxHeartbeats 4000000
set_option maxRecDepth 100000
theorem copy_any (b : Nat) (w : World) {F : Nat → Prop} {m : MS} (hm : HasM w F b m) (ht : m.tones.length ≤ 1000000) :
    Calls Try.prog 25 #[.pointer (some ⟨b, 0, none⟩)] w fun e w' => ∃ b', e = .returned (.pointer (some ⟨b', 0, none⟩)) ∧ HasM w' (fun k => w.heap.size ≤ k) b' m ∧ Below w.heap.size w w' := by
  obtain ⟨mb, L, tv, hm⟩ := hm
  have hone : tv.oneCell' = true := by rcases hm.tones.2 with ⟨e, _⟩ | ⟨g, cap, cur, e, _⟩ <;> (rw [e]; rfl)
  have z86 := zeroValue86
  have z83 := zeroValue83
  have hmm := @run_makeMap Try.prog
  have hsz : (mcells mb m tv).toArray.size = 19464 := by rw [List.size_toArray]; exact mcells_len mb m tv hm.wf
  have hz86 : zero86.toArray.size = 19464 := by rw [List.size_toArray]; exact zero86_len
  have h86 : (w.alloc (.cells zero86.toArray 86)).heap[w.heap.size]? = some (.cells zero86.toArray 86 (0, 0)) := heap_alloc_new w _
  have hall : (mcells mb m tv).toArray.all (·.oneCell') = true := by rw [List.all_toArray, List.all_eq_true]; exact mcells_one mb m tv hone
  obtain ⟨wB, hwB⟩ : ∃ wB, (w.alloc (.cells zero86.toArray 86)).setRow w.heap.size (mcells mb m tv).toArray = wB := ⟨_, rfl⟩
  have bB0 : wB.heap[w.heap.size]? = some (.cells (mcells mb m tv).toArray 86 (0, 0)) := by rw [← hwB]; exact setRow_eq _ _ zero86 86 _ h86
  have zB : wB.heap.size = w.heap.size + 1 := by rw [← hwB, size_setRow]; simp
  have bB : Below w.heap.size w wB := by
    rw [← hwB]
    exact ⟨rfl, rfl, rfl, by rw [size_setRow]; simp, fun k hk => (setRow_other _ _ _ _ (by omega)).trans (Below.heap_alloc w _ k hk)⟩
  obtain ⟨wD, hwD⟩ : ∃ wD, (wB.alloc (.map #[] 0)).setCell ⟨w.heap.size, 0, none⟩ (.map (some (w.heap.size + 1))) = wD := ⟨_, rfl⟩
  obtain ⟨hCP, hmD, zD⟩ := CP.start hm wB wD _ bB0 zB bB hwD.symm rfl
  have hrg := run_range_map (P := Try.prog) wD 82 3 87 mb _ _ Try.underlying82 hmD
  have cN : (wB.alloc (.map #[] 0)).cell? ⟨w.heap.size, 0, none⟩ = some (.map (some mb)) := cell_of _ _ 0 _ 86 _ ((Below.heap_alloc _ _ _ (by omega)).trans bB0) (mcells_0 _ _ _)
  have zN := frozen_of (wB.alloc (.map #[] 0)) w.heap.size 0 _ 86 ((Below.heap_alloc _ _ _ (by omega)).trans bB0)
  have cS : wD.cell? ⟨b, 0, none⟩ = some (.map (some mb)) := cell_of _ _ 0 _ 86 _ (by rw [← hwD, setCell_other _ _ _ _ _ (by have := lt_of hm.blk; omega), Below.heap_alloc _ _ _ (by have := lt_of hm.blk; omega)]; exact (bB.block _ (lt_of hm.blk)).trans hm.blk) (mcells_0 _ _ _)
  rw [zD] at hrg
  have HM : Hid _ := hm
  have HC : Hid _ := hCP
  have hwbk := hm.blk
  clear hm hCP hmD bB bB0
  go_enter Try.func25, Try.ntmps25
  go_wp2_with (first
    | (refine wpList_load_row rfl 86 (.tmp 10) rfl b (by simp [Act.eval]) 86 (mcells mb m tv).toArray (0, 0) _ hwbk Try.underlying86 rfl (by rw [info86s, hsz]) ?_)
    | (refine wpList_store_row rfl 86 (.tmp 3) (.tmp 11) rfl w.heap.size (mcells mb m tv).toArray (by simp [Act.eval]) (by simp [Act.eval]) 86 zero86.toArray h86 (by rw [info86s, hsz]) (by rw [hz86, hsz]) hall ?_))
  clear cN zN cS hwB hwD hrg z86 hmm h86 hall hsz hz86 hwbk
  go_loopw [] (fun wr => ∃ (vis : List Nat) (L' : List (Nat × Nat)), CP w wr m mb L tv vis L') (fun wr => leftN (w.heap.size + 2) L.length wr)
  case atStart => exact ⟨[], [], HC.out⟩
  case round =>
    clear HC
    obtain ⟨vis, L', hC⟩ := hrel
    have hborn : ∀ x ∈ (ents 0 L).toArray.toList, x.born < L.length := by
      intro x hx
      obtain ⟨j, p, h1, h2⟩ := (ents_mem L 0 x).1 (by simpa using hx)
      have := (List.getElem?_eq_some_iff.1 h1).1
      rw [h2]; simp; omega
    have hmap := (hC.bel.block _ (lt_of HM.out.map)).trans HM.out.map
    go_wp2_with (first | (refine wpList_next_law rfl (.tmp 18) rfl (w.heap.size + 2) mb L.length L.length vis.toArray (ents 0 L).toArray L.length (by simp [Act.eval]) hC.it hmap hborn (Nat.le_refl _) ?_))
    intro v w' hcase
    unfold NX at hcase
    rcases hcase with ⟨h0, rfl, rfl⟩ | ⟨e, he, w1, hw1, rfl, hW2⟩
    · have hvall : ∀ j, j < L.length → j ∈ vis := by
        intro j hj
        by_cases c : j ∈ vis
        · exact c
        exfalso
        have hmem : ({ key := .int .i64 ((L[j]).1 : Int), val := .pointer (some ⟨(L[j]).2, 0, none⟩), born := 0 + j } : MapEntry) ∈ ents 0 L := (ents_mem L 0 _).2 ⟨j, L[j], List.getElem?_eq_getElem hj, rfl⟩
        have : leftOf (ents 0 L).toArray vis.toArray = #[] := Array.eq_empty_of_size_eq_zero h0
        unfold leftOf at this
        rw [Array.filter_eq_empty_iff] at this
        have h3 := this _ (by simpa using hmem)
        simp at h3
        exact c h3
      have hvb := visB_all m L vis HM.out.all hvall
      have hT : MemP w' (fun k => w.heap.size ≤ k ∨ tv.ownBlock = some k) w.heap.size m (w.heap.size + 1) L' tv := by have := hC.twin; rw [hvb] at this; exact this
      have c9 : w'.cell? ⟨b, 19463, none⟩ = some tv := cell_of _ _ (19457 + 6) _ 86 _ ((hC.bel.block _ (lt_of HM.out.blk)).trans HM.out.blk) ((mcells_reg mb m tv HM.out.wf 6).trans rfl)
      have hct := cloneT_any tv m.tones ht w' (own_kept HM.out.tones fun g e hg => hC.bel.block g hg)
      have HT : Hid _ := hT
      have HCf : Hid _ := hC
      clear hT hC hvb hvall hmap hborn h0
      go_wp2_with fail
      refine hct.mono ?_
      rintro e9 w2 ⟨u9, rfl, hT9, hb9⟩
      have hT2 := HT.out.kept (W' := w2) fun i hi _ => hb9.block i hi
      have hN := HCf.out.bel.size
      have hfin := hT2.retone (G := fun k => w.heap.size ≤ k) (own_mono hT9 (Nat.zero_le _)) (Nat.le_refl _) (by omega) HCf.out.fbk (fun g e => by have := (hT9.lt g e).1; omega)
      have hbl : Below w.heap.size w (w2.setCell ⟨w.heap.size, 19463, none⟩ u9) := (HCf.out.bel.trans (hb9.mono hN)).setCell (p := ⟨w.heap.size, 19463, none⟩) (Nat.le_refl _) _
      have k9 := cell_of w2 w.heap.size (19457 + 6) _ 86 _ hT2.blk ((mcells_reg _ m tv HM.out.wf 6).trans rfl)
      have z9 := frozen_of w2 w.heap.size 19463 _ 86 hT2.blk
      simp only [Nat.reduceAdd] at k9
      obtain ⟨p9, c99, rfl⟩ := own_form0 hT9
      have HF : Hid _ := hfin
      have HBl : Hid _ := hbl
      clear hfin hbl hT2 hT9 hb9 hct c9
      go_wp2
      go_ret
      exact ⟨_, rfl, ⟨_, _, _, HF.out⟩, HBl.out⟩
    · have hmem : e ∈ ents 0 L ∧ e.born ∉ vis := by
        unfold leftOf at he
        simp at he
        exact ⟨he.1, by simpa using he.2⟩
      obtain ⟨j, p, hj, rfl⟩ := (ents_mem L 0 e).1 hmem.1
      obtain ⟨n, g⟩ := p
      have hv : j ∉ vis := by simpa using hmem.2
      obtain ⟨l, hbn, hbk⟩ := HM.out.bks (n, g) (List.mem_of_getElem? hj)
      simp only [Nat.zero_add] at hW2 hmem
      have z1 : w1.heap = wr.heap := by rcases hw1 with rfl | rfl <;> rfl
      have hgr : g ≠ w.heap.size + 2 := by have := lt_of hbk; omega
      have hmr : mb ≠ w.heap.size + 2 := by have := lt_of HM.out.map; omega
      have hit2 : w'.heap[w.heap.size + 2]? = some (.mapIter (some mb) L.length (vis.toArray.push j) L.length) := by rw [hW2]; exact setBlock_same w1 _ _ _ (by rw [z1]; exact hC.it)
      have hmap2 : w'.heap[mb]? = some (.map (ents 0 L).toArray L.length) := by rw [hW2, setBlock_other _ _ _ _ hmr, z1]; exact hmap
      have hen := run_entry_at (P := Try.prog) w' (w.heap.size + 2) mb L.length vis.toArray (ents 0 L).toArray L.length { key := .int .i64 (n : Int), val := .pointer (some ⟨g, 0, none⟩), born := j } hit2 hmap2 (by simpa using hmem.1) (by simp only []; rw [ents_born]; exact List.nodup_range')
      have hbk2 : w'.heap[g]? = some (.cells (bv l).toArray 83 (0, 0)) := by rw [hW2, setBlock_other _ _ _ _ hgr, z1]; exact (hC.bel.block _ (lt_of hbk)).trans hbk
      have hll := (HM.out.wf.bk n l hbn).2
      have hs83 : (bv l).toArray.size = 16384 := by rw [List.size_toArray, bv_len]; exact hll
      have hz83 : zero83.toArray.size = 16384 := by rw [List.size_toArray]; exact zero83_len
      have hall : (bv l).toArray.all (·.oneCell') = true := by rw [List.all_toArray, List.all_eq_true]; exact bv_one l
      have h83 : (w'.alloc (.cells zero83.toArray 83)).heap[w'.heap.size]? = some (.cells zero83.toArray 83 (0, 0)) := heap_alloc_new w' _
      obtain ⟨W4, hW4⟩ : ∃ W4, (w'.alloc (.cells zero83.toArray 83)).setRow w'.heap.size (bv l).toArray = W4 := ⟨_, rfl⟩
      have h4 : Bk W4 w'.heap.size l := by rw [← hW4]; exact setRow_eq _ _ zero83 83 _ h83
      have z4 : W4.heap.size = w'.heap.size + 1 := by rw [← hW4, size_setRow]; simp
      have k4 : ∀ k, k < w'.heap.size → W4.heap[k]? = w'.heap[k]? := fun k hk => by rw [← hW4]; exact (setRow_other _ _ _ _ (by omega)).trans (Below.heap_alloc w' _ k hk)
      obtain ⟨cN4, W5, hput, hC5, hlt5⟩ := hC.round HM.out hw1 j n g l hj hv hbn hW2 k4 z4 h4 (by rw [← hW4]; rfl) (by rw [← hW4]; rfl) (by rw [← hW4]; rfl)
      have HC5 : Hid _ := hC5
      have HL5 : Hid _ := hlt5
      clear hC5 hlt5 hC hmap hborn he hmem hit2 hmap2 h4 z4 k4 hW2 hw1 z1 hv hj hbn hbk hll
      go_wp2_with (first
        | (refine wpList_load_row rfl 83 (.tmp 25) rfl g (by simp [Act.eval]) 83 (bv l).toArray (0, 0) _ hbk2 Try.underlying83 rfl (by rw [info83s, hs83]) ?_)
        | (refine wpList_store_row rfl 83 (.tmp 6) (.tmp 26) rfl w'.heap.size (bv l).toArray (by simp [Act.eval]) (by simp [Act.eval]) 83 zero83.toArray h83 (by rw [info83s, hs83]) (by rw [hz83, hs83]) hall ?_))
      go_roundw
      case rel =>
        first
          | exact ⟨_, _, HC5.out⟩
          | ((repeat apply Exists.intro); exact ⟨⟨_, _, HC5.out⟩, rfl⟩)
      case measure => exact HL5.out
end Go.Proofs.Ytcmaccefjlgbfaa
