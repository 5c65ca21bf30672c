import Derived.Test.YteldjmecomngeaaGreatG8
import Derived.Laws.StructEq
/-! Copy, walked. -/
namespace Go.Proofs.YteldjmecomngeaaGreat.M
open Go.RowKit
open Go.Proofs
open Go.ChangeMaps (setBlock)
set_option linter.unusedVariables false
set_option linter.unusedSimpArgs false
theorem CP.start {w : World} {F : Nat → Prop} {b : Nat} {m : MS} {mb : Nat} {L : List (Nat × Nat)} {tv : Value} (h : MemP w F b m mb L tv) (wB wD wE : World) (hB : wB.heap[w.heap.size]? = some (.cells (mcells mb m tv).toArray 146 (0, 0))) (zB : wB.heap.size = w.heap.size + 1) (bB : Below w.heap.size w wB)
    (eD : wD = (wB.alloc (.map #[] 0)).setCell ⟨w.heap.size, 0, none⟩ (.map (some (w.heap.size + 1)))) (eE : wE = wD.alloc (.mapIter (some mb) L.length #[] L.length)) :
    CP w wE m mb L tv [] [] ∧ wD.heap[mb]? = some (.map (ents 0 L).toArray L.length) ∧ wD.heap.size = w.heap.size + 2 := by
  have c0 : (wB.alloc (.map #[] 0)).heap[w.heap.size]? = some (.cells (mcells mb m tv).toArray 146 (0, 0)) := (Below.heap_alloc _ _ _ (by omega)).trans hB
  have d0 : wD.heap[w.heap.size]? = some (.cells (mcells (w.heap.size + 1) m tv).toArray 146 (0, 0)) := by rw [eD, setCell_heap _ _ 0 _ 146 _ c0, mcells_set_0]
  have zD : wD.heap.size = w.heap.size + 2 := by rw [eD, setCell_size]; simp; omega
  have d1 : wD.heap[w.heap.size + 1]? = some (.map #[] 0) := by
    rw [eD, setCell_other _ _ _ _ _ (by omega), ← zB]; exact heap_alloc_new wB _
  have bD : Below w.heap.size w wD := by rw [eD]; exact (bB.alloc bB.size _).setCell (p := ⟨w.heap.size, 0, none⟩) (Nat.le_refl _) _
  have kE : ∀ k, k < wD.heap.size → wE.heap[k]? = wD.heap[k]? := fun k hk => by rw [eE]; exact Below.heap_alloc wD _ k hk
  have bE : Below w.heap.size w wE := by rw [eE]; exact bD.alloc (by omega) _
  refine ⟨⟨?_, by simp, ?_, bE, by simp, by simp⟩, (bD.block _ (lt_of h.map)).trans h.map, zD⟩
  · refine ⟨⟨h.wf.ram, h.wf.scr, h.wf.ch0, h.wf.ch1, h.wf.pad0, h.wf.pad1, h.wf.pitch0, h.wf.pitch1, h.wf.vol0, h.wf.vol1, h.wf.time0, h.wf.time1, by intro n l e; simp [visB] at e⟩, (kE _ (by omega)).trans d0, (kE _ (by omega)).trans d1, by simp, by simp, by simp, by simp, by intro n l e; simp [visB] at e, ?_, .inl (Nat.le_refl _), .inl (by omega), by simp, fun g e => .inr e⟩
    exact own_kept h.tones fun g e hg => bE.block g hg
  · rw [eE, ← zD]; exact heap_alloc_new wD _
theorem own_form0 {w : World} {B : Nat} {e : TypeId} {size : Nat} {v : Value} {n : Nat} {xs : List Value} (h : w.ownsRow B e size v n xs) : ∃ p cap, v = .slice p n cap := by
  rcases h.2 with ⟨h, e⟩ | ⟨g, cap, cur, h1, _⟩
  · exact ⟨none, 0, by rw [h, e]⟩
  · exact ⟨_, cap, h1⟩
set_option maxHeartbeats 4000000
set_option maxRecDepth 100000
theorem copy_any (b : Nat) (w : World) {F : Nat → Prop} {m : MS} (hm : HasM w F b m) (ht : m.tones.length ≤ 1000000) :
    Calls Tryz.prog 52 #[.pointer (some ⟨b, 0, none⟩)] w fun e w' => ∃ b', e = .returned (.pointer (some ⟨b', 0, none⟩)) ∧ HasM w' (fun k => w.heap.size ≤ k) b' m ∧ Below w.heap.size w w' := by
  obtain ⟨mb, L, tv, hm⟩ := hm
  have hone : tv.oneCell' = true := by rcases hm.tones.2 with ⟨e, _⟩ | ⟨g, cap, cur, e, _⟩ <;> (rw [e]; rfl)
  have z86 := zeroValue86
  have z83 := zeroValue83
  have hmm := @run_makeMap Tryz.prog
  have hsz : (mcells mb m tv).toArray.size = 19464 := by rw [List.size_toArray]; exact mcells_len mb m tv hm.wf
  have hz86 : zero86.toArray.size = 19464 := by rw [List.size_toArray]; exact zero86_len
  have h86 : (w.alloc (.cells zero86.toArray 146)).heap[w.heap.size]? = some (.cells zero86.toArray 146 (0, 0)) := heap_alloc_new w _
  have hall : (mcells mb m tv).toArray.all (·.oneCell') = true := by rw [List.all_toArray, List.all_eq_true]; exact mcells_one mb m tv hone
  obtain ⟨wB, hwB⟩ : ∃ wB, (w.alloc (.cells zero86.toArray 146)).setRow w.heap.size (mcells mb m tv).toArray = wB := ⟨_, rfl⟩
  have bB0 : wB.heap[w.heap.size]? = some (.cells (mcells mb m tv).toArray 146 (0, 0)) := by rw [← hwB]; exact setRow_eq _ _ zero86 146 _ h86
  have zB : wB.heap.size = w.heap.size + 1 := by rw [← hwB, size_setRow]; simp
  have bB : Below w.heap.size w wB := by
    rw [← hwB]
    exact ⟨rfl, rfl, rfl, by rw [size_setRow]; simp, fun k hk => (setRow_other _ _ _ _ (by omega)).trans (Below.heap_alloc w _ k hk)⟩
  obtain ⟨wD, hwD⟩ : ∃ wD, (wB.alloc (.map #[] 0)).setCell ⟨w.heap.size, 0, none⟩ (.map (some (w.heap.size + 1))) = wD := ⟨_, rfl⟩
  obtain ⟨hCP, hmD, zD⟩ := CP.start hm wB wD _ bB0 zB bB hwD.symm rfl
  have hrg := run_range_map (P := Tryz.prog) wD 142 3 176 mb _ _ Tryz.underlying142 hmD
  have cN : (wB.alloc (.map #[] 0)).cell? ⟨w.heap.size, 0, none⟩ = some (.map (some mb)) := cell_of _ _ 0 _ 146 _ ((Below.heap_alloc _ _ _ (by omega)).trans bB0) (mcells_0 _ _ _)
  have zN := frozen_of (wB.alloc (.map #[] 0)) w.heap.size 0 _ 146 ((Below.heap_alloc _ _ _ (by omega)).trans bB0)
  have cS : wD.cell? ⟨b, 0, none⟩ = some (.map (some mb)) := cell_of _ _ 0 _ 146 _ (by rw [← hwD, setCell_other _ _ _ _ _ (by have := lt_of hm.blk; omega), Below.heap_alloc _ _ _ (by have := lt_of hm.blk; omega)]; exact (bB.block _ (lt_of hm.blk)).trans hm.blk) (mcells_0 _ _ _)
  rw [zD] at hrg
  have HM : Hid _ := hm
  have HC : Hid _ := hCP
  have hwbk := hm.blk
  clear hm hCP hmD bB bB0
  go_enter Tryz.func52, Tryz.ntmps52
  go_wp2_with (first
    | (refine wpList_load_row rfl 146 (.tmp 10) rfl b (by simp [Act.eval]) 146 (mcells mb m tv).toArray (0, 0) _ hwbk Tryz.underlying146 rfl (by rw [info86s, hsz]) ?_)
    | (refine wpList_store_row rfl 146 (.tmp 3) (.tmp 11) rfl w.heap.size (mcells mb m tv).toArray (by simp [Act.eval]) (by simp [Act.eval]) 146 zero86.toArray h86 (by rw [info86s, hsz]) (by rw [hz86, hsz]) hall ?_))
  clear cN zN cS hwB hwD hrg z86 hmm h86 hall hsz hz86 hwbk
  go_loopw [] (fun wr => ∃ (vis : List Nat) (L' : List (Nat × Nat)), CP w wr m mb L tv vis L') (fun wr => leftN (w.heap.size + 2) L.length wr)
  case atStart => exact ⟨[], [], HC.out⟩
  case round =>
    clear HC
    obtain ⟨vis, L', hC⟩ := hrel
    have hborn : ∀ x ∈ (ents 0 L).toArray.toList, x.born < L.length := by
      intro x hx
      obtain ⟨j, p, h1, h2⟩ := (ents_mem L 0 x).1 (by simpa using hx)
      have := (List.getElem?_eq_some_iff.1 h1).1
      rw [h2]; simp; omega
    have hmap := (hC.bel.block _ (lt_of HM.out.map)).trans HM.out.map
    go_wp2_with (first | (refine wpList_next_law rfl (.tmp 18) rfl (w.heap.size + 2) mb L.length L.length vis.toArray (ents 0 L).toArray L.length (by simp [Act.eval]) hC.it hmap hborn (Nat.le_refl _) ?_))
    intro v w' hcase
    unfold NX at hcase
    rcases hcase with ⟨h0, rfl, rfl⟩ | ⟨e, he, w1, hw1, rfl, hW2⟩
    · have hvall : ∀ j, j < L.length → j ∈ vis := by
        intro j hj
        by_cases c : j ∈ vis
        · exact c
        exfalso
        have hmem : ({ key := .int .i64 ((L[j]).1 : Int), val := .pointer (some ⟨(L[j]).2, 0, none⟩), born := 0 + j } : MapEntry) ∈ ents 0 L := (ents_mem L 0 _).2 ⟨j, L[j], List.getElem?_eq_getElem hj, rfl⟩
        have : leftOf (ents 0 L).toArray vis.toArray = #[] := Array.eq_empty_of_size_eq_zero h0
        unfold leftOf at this
        rw [Array.filter_eq_empty_iff] at this
        have h3 := this _ (by simpa using hmem)
        simp at h3
        exact c h3
      have hvb := visB_all m L vis HM.out.all hvall
      have hT : MemP w' (fun k => w.heap.size ≤ k ∨ tv.ownBlock = some k) w.heap.size m (w.heap.size + 1) L' tv := by have := hC.twin; rw [hvb] at this; exact this
      have c9 : w'.cell? ⟨b, 19463, none⟩ = some tv := cell_of _ _ (19457 + 6) _ 146 _ ((hC.bel.block _ (lt_of HM.out.blk)).trans HM.out.blk) ((mcells_reg mb m tv HM.out.wf 6).trans rfl)
      have hct := cloneT_any tv m.tones ht w' (own_kept HM.out.tones fun g e hg => hC.bel.block g hg)
      have HT : Hid _ := hT
      have HCf : Hid _ := hC
      clear hT hC hvb hvall hmap hborn h0
      go_wp2_with fail
      refine hct.mono ?_
      rintro e9 w2 ⟨u9, rfl, hT9, hb9⟩
      have hT2 := HT.out.kept (W' := w2) fun i hi _ => hb9.block i hi
      have hN := HCf.out.bel.size
      have hfin := hT2.retone (G := fun k => w.heap.size ≤ k) (own_mono hT9 (Nat.zero_le _)) (Nat.le_refl _) (by omega) HCf.out.fbk (fun g e => by have := (hT9.lt g e).1; omega)
      have hbl : Below w.heap.size w (w2.setCell ⟨w.heap.size, 19463, none⟩ u9) := (HCf.out.bel.trans (hb9.mono hN)).setCell (p := ⟨w.heap.size, 19463, none⟩) (Nat.le_refl _) _
      have k9 := cell_of w2 w.heap.size (19457 + 6) _ 146 _ hT2.blk ((mcells_reg _ m tv HM.out.wf 6).trans rfl)
      have z9 := frozen_of w2 w.heap.size 19463 _ 146 hT2.blk
      simp only [Nat.reduceAdd] at k9
      obtain ⟨p9, c99, rfl⟩ := own_form0 hT9
      have HF : Hid _ := hfin
      have HBl : Hid _ := hbl
      clear hfin hbl hT2 hT9 hb9 hct c9
      go_wp2
      go_ret
      exact ⟨_, rfl, ⟨_, _, _, HF.out⟩, HBl.out⟩
    · have hmem : e ∈ ents 0 L ∧ e.born ∉ vis := by
        unfold leftOf at he
        simp at he
        exact ⟨he.1, by simpa using he.2⟩
      obtain ⟨j, p, hj, rfl⟩ := (ents_mem L 0 e).1 hmem.1
      obtain ⟨n, g⟩ := p
      have hv : j ∉ vis := by simpa using hmem.2
      obtain ⟨l, hbn, hbk⟩ := HM.out.bks (n, g) (List.mem_of_getElem? hj)
      simp only [Nat.zero_add] at hW2 hmem
      have z1 : w1.heap = wr.heap := by rcases hw1 with rfl | rfl <;> rfl
      have hgr : g ≠ w.heap.size + 2 := by have := lt_of hbk; omega
      have hmr : mb ≠ w.heap.size + 2 := by have := lt_of HM.out.map; omega
      have hit2 : w'.heap[w.heap.size + 2]? = some (.mapIter (some mb) L.length (vis.toArray.push j) L.length) := by rw [hW2]; exact setBlock_same w1 _ _ _ (by rw [z1]; exact hC.it)
      have hmap2 : w'.heap[mb]? = some (.map (ents 0 L).toArray L.length) := by rw [hW2, setBlock_other _ _ _ _ hmr, z1]; exact hmap
      have hen := run_entry_at (P := Tryz.prog) w' (w.heap.size + 2) mb L.length vis.toArray (ents 0 L).toArray L.length { key := .int .i64 (n : Int), val := .pointer (some ⟨g, 0, none⟩), born := j } hit2 hmap2 (by simpa using hmem.1) (by simp only []; rw [ents_born]; exact List.nodup_range')
      have hbk2 : w'.heap[g]? = some (.cells (bv l).toArray 143 (0, 0)) := by rw [hW2, setBlock_other _ _ _ _ hgr, z1]; exact (hC.bel.block _ (lt_of hbk)).trans hbk
      have hll := (HM.out.wf.bk n l hbn).2
      have hs83 : (bv l).toArray.size = 16384 := by rw [List.size_toArray, bv_len]; exact hll
      have hz83 : zero83.toArray.size = 16384 := by rw [List.size_toArray]; exact zero83_len
      have hall : (bv l).toArray.all (·.oneCell') = true := by rw [List.all_toArray, List.all_eq_true]; exact bv_one l
      have h83 : (w'.alloc (.cells zero83.toArray 143)).heap[w'.heap.size]? = some (.cells zero83.toArray 143 (0, 0)) := heap_alloc_new w' _
      obtain ⟨W4, hW4⟩ : ∃ W4, (w'.alloc (.cells zero83.toArray 143)).setRow w'.heap.size (bv l).toArray = W4 := ⟨_, rfl⟩
      have h4 : Bk W4 w'.heap.size l := by rw [← hW4]; exact setRow_eq _ _ zero83 143 _ h83
      have z4 : W4.heap.size = w'.heap.size + 1 := by rw [← hW4, size_setRow]; simp
      have k4 : ∀ k, k < w'.heap.size → W4.heap[k]? = w'.heap[k]? := fun k hk => by rw [← hW4]; exact (setRow_other _ _ _ _ (by omega)).trans (Below.heap_alloc w' _ k hk)
      obtain ⟨cN4, W5, hput, hC5, hlt5⟩ := hC.round HM.out hw1 j n g l hj hv hbn hW2 k4 z4 h4 (by rw [← hW4]; rfl) (by rw [← hW4]; rfl) (by rw [← hW4]; rfl)
      have HC5 : Hid _ := hC5
      have HL5 : Hid _ := hlt5
      clear hC5 hlt5 hC hmap hborn he hmem hit2 hmap2 h4 z4 k4 hW2 hw1 z1 hv hj hbn hbk hll
      go_wp2_with (first
        | (refine wpList_load_row rfl 143 (.tmp 25) rfl g (by simp [Act.eval]) 143 (bv l).toArray (0, 0) _ hbk2 Tryz.underlying143 rfl (by rw [info83s, hs83]) ?_)
        | (refine wpList_store_row rfl 143 (.tmp 6) (.tmp 26) rfl w'.heap.size (bv l).toArray (by simp [Act.eval]) (by simp [Act.eval]) 143 zero83.toArray h83 (by rw [info83s, hs83]) (by rw [hz83, hs83]) hall ?_))
      go_roundw
      case rel =>
        first
          | exact ⟨_, _, HC5.out⟩
          | ((repeat apply Exists.intro); exact ⟨⟨_, _, HC5.out⟩, rfl⟩)
      case measure => exact HL5.out
end Go.Proofs.YteldjmecomngeaaGreat.M
/-! Copy. -/
namespace Go.Proofs.YteldjmecomngeaaGreat.V
open Go.RowKit
open Go.Proofs
set_option linter.unusedVariables false
set_option linter.unusedSimpArgs false
set_option maxHeartbeats 2000000
set_option maxRecDepth 100000
theorem size128 : (Tryz.prog.info? 128).map (·.size) = some 7 := by kernel_rfl
def zM : Array Value := #[.int .u16 0, .int .i64 0, .int .i64 0, .pointer none, .pointer none, .slice none 0 0, .pointer none]
theorem copy_mv (w w3 W5 w6 : World) (g bd br bm bd' br' b' : Nat) (kp : Option Addr) (kc : Nat) (F : Nat → Prop) (v : VS) (h : MV w g bd br bm (.slice kp v.code.length kc) F v) (hB5 : Below w.heap.size w W5) (o5 : ∀ k, k ≠ w.heap.size → W5.heap[k]? = w3.heap[k]?) (z5 : W5.heap.size = w3.heap.size)
    (hN6 : w6.heap[w.heap.size]? = some (.cells [.int .u16 v.pc, .int .i64 v.st, .int .i64 v.fa, .pointer (some ⟨bd', 0, none⟩), .pointer (some ⟨br', 0, none⟩), .slice kp v.code.length kc, .pointer (some ⟨bm, 0, none⟩)].toArray 128 (0, 0))) (hD : S.HasD w3 bd' v.D) (hR : S.HasR w3 br' v.R) (l1 : w.heap.size < bd') (l2 : w.heap.size < br') (l3 : bd' ≠ br')
    (hm : M.HasM w6 (fun k => W5.heap.size ≤ k) b' v.m) (b6 : Below W5.heap.size W5 w6) :
    MV (w6.setCell ⟨w.heap.size, 6, none⟩ (.pointer (some ⟨b', 0, none⟩))) w.heap.size bd' br' b' (.slice kp v.code.length kc) (fun k => W5.heap.size ≤ k ∧ k < w6.heap.size) v ∧ (w.heap.size ≤ w.heap.size ∧ w.heap.size ≤ bd' ∧ w.heap.size ≤ br' ∧ ∀ k, (W5.heap.size ≤ k ∧ k < w6.heap.size) → w.heap.size ≤ k) ∧ Below w.heap.size w (w6.setCell ⟨w.heap.size, 6, none⟩ (.pointer (some ⟨b', 0, none⟩))) := by
  have o7 : ∀ k, k ≠ w.heap.size → (w6.setCell ⟨w.heap.size, 6, none⟩ (.pointer (some ⟨b', 0, none⟩))).heap[k]? = w6.heap[k]? := fun k hk => S.setCell_other w6 _ _ _ _ hk
  have s5 := hB5.size
  have s6 := b6.size
  have d3 := S.lt_of hD.1
  have r3 := S.lt_of hR.1
  have hB7 : Below w.heap.size w (w6.setCell ⟨w.heap.size, 6, none⟩ (.pointer (some ⟨b', 0, none⟩))) := by
    have q := trB hB5 b6 hB5.size
    exact ⟨q.os, q.tape, q.output, by rw [S.setCell_size]; exact q.size, fun k hk => (o7 k (by omega)).trans (q.block k hk)⟩
  have hN : w.heap.size < w6.heap.size := S.lt_of hN6
  have hN5 : w.heap.size < W5.heap.size := by
    have := d3; omega
  refine ⟨⟨S.setCell_heap w6 w.heap.size 6 _ 128 _ hN6, ⟨hD.kept ((o7 _ (by omega)).trans ((b6.block _ (by omega)).trans (o5 _ (by omega)))), hR.kept ((o7 _ (by omega)).trans ((b6.block _ (by omega)).trans (o5 _ (by omega)))), (hm.mono fun i hi e => ⟨e, hi⟩).kept fun k hk f => o7 k (by omega), l3, by rintro ⟨e, _⟩; omega, by rintro ⟨e, _⟩; omega⟩, h.code.below hB7, h.clen, ?_, ?_, ?_, by omega, by omega, by rintro ⟨e, _⟩; omega, h.wf⟩, ⟨Nat.le_refl _, by omega, by omega, by rintro k ⟨e, _⟩; omega⟩, hB7⟩
  · intro k e; have := h.ck k e; have := hB7.size; omega
  · intro k e; have := h.ck k e; exact ⟨by omega, by omega, by omega, by rintro ⟨e, _⟩; omega⟩
  · rintro k ⟨_, e⟩; rw [S.setCell_size]; exact e
theorem copy_any (g bd br bm : Nat) (kv : Value) (F : Nat → Prop) (v : VS) (hm : S.mayS v.D v.R = true) (ht : v.m.tones.length ≤ 1000000) (w : World) (h : MV w g bd br bm kv F v) :
    Calls Tryz.prog 19 #[.pointer (some ⟨g, 0, none⟩)] w fun e w' => ∃ g' bd' br' bm' F', e = .returned (.pointer (some ⟨g', 0, none⟩)) ∧ MV w' g' bd' br' bm' kv F' v ∧ (w.heap.size ≤ g' ∧ w.heap.size ≤ bd' ∧ w.heap.size ≤ br' ∧ ∀ k, F' k → w.heap.size ≤ k) ∧ Below w.heap.size w w' := by
  obtain ⟨kp, kc, rfl, _⟩ := h.code.ex
  have r1 := heap_alloc_new w (.cells #[.int .u16 v.pc, .int .i64 v.st, .int .i64 v.fa, .pointer (some ⟨bd, 0, none⟩), .pointer (some ⟨br, 0, none⟩), .slice kp v.code.length kc, .pointer (some ⟨bm, 0, none⟩)] 128)
  have b1 := P.bel_alloc w (.cells #[.int .u16 v.pc, .int .i64 v.st, .int .i64 v.fa, .pointer (some ⟨bd, 0, none⟩), .pointer (some ⟨br, 0, none⟩), .slice kp v.code.length kc, .pointer (some ⟨bm, 0, none⟩)] 128)
  have hblk : w.heap[g]? = some (.cells #[.int .u16 v.pc, .int .i64 v.st, .int .i64 v.fa, .pointer (some ⟨bd, 0, none⟩), .pointer (some ⟨br, 0, none⟩), .slice kp v.code.length kc, .pointer (some ⟨bm, 0, none⟩)] 128 (0, 0)) := h.blk
  have hM := h.below b1
  generalize hW : w.alloc (.cells #[.int .u16 v.pc, .int .i64 v.st, .int .i64 v.fa, .pointer (some ⟨bd, 0, none⟩), .pointer (some ⟨br, 0, none⟩), .slice kp v.code.length kc, .pointer (some ⟨bm, 0, none⟩)] 128) = W at *
  have hB1 : Below W.heap.size W W.drew := ⟨rfl, rfl, rfl, Nat.le_refl _, fun _ _ => rfl⟩
  have hM1 := hM.below hB1
  have s0 := And.intro hM1.c3 hM1.c4
  have k1 := S.dcells bd v.D W.drew hM1.ps.d
  have hs : w.heap.size < W.heap.size := S.lt_of r1
  have hsd : w.heap.size < W.drew.heap.size := hs
  have HRd := S.hid (show W.drew.heap[w.heap.size]? = some (.cells [.int .u16 v.pc, .int .i64 v.st, .int .i64 v.fa, .pointer (some ⟨bd, 0, none⟩), .pointer (some ⟨br, 0, none⟩), .slice kp v.code.length kc, .pointer (some ⟨bm, 0, none⟩)].toArray 128 (0, 0)) from r1)
  have HM := S.hid hM1
  have hBd := S.hid hB1
  have HB := S.hid b1
  have HR := S.hid r1
  have H0 := S.hid h
  have HMS := S.hid hm
  clear h hM hM1 b1 r1 hm
  go_enter Tryz.func19, Tryz.ntmps19
  go_wp2_with (refine wpList_load_row rfl 128 _ rfl g rfl 128 _ (0, 0) _ hblk Tryz.underlying128 rfl (by exact size128) ?_)
  try rw [hW]
  clear hblk
  refine wp_region_held_drew (S := (fun w' => w'.cell? ⟨g, 3, none⟩ = some (.pointer (some ⟨bd, 0, none⟩)) ∧ w'.cell? ⟨g, 4, none⟩ = some (.pointer (some ⟨br, 0, none⟩)))) (by kernel_rfl) s0 (fun hHeld => ?_)
  generalize hWd : W.drew = Wd at *
  refine wpAnyH_take (i := 0) (v := ?_) rfl (by kernel_rfl) (by kernel_rfl) (by kernel_rfl) (fun c a w h => h) (Or.inl ⟨by rfl, ?_⟩) hHeld ?_
  rotate_left
  · (intro w hSw; (try dsimp only at hSw); go_simp; try with_reducible rfl)
  simp only [Act.put, List.setIfInBounds_toArray, List.set_cons_zero, List.set_cons_succ]
  refine wpAnyH_take (i := 1) (v := ?_) rfl (by kernel_rfl) (by kernel_rfl) (by kernel_rfl) (fun c a w h => h) (Or.inl ⟨by rfl, ?_⟩) hHeld ?_
  rotate_left
  · (intro w hSw; (try dsimp only at hSw); go_simp; try with_reducible rfl)
  simp only [Act.put, List.setIfInBounds_toArray, List.set_cons_zero, List.set_cons_succ]
  refine wpAnyH_take (i := 2) (v := ?_) rfl (by kernel_rfl) (by kernel_rfl) (by kernel_rfl) (fun c a w h => h) (Or.inl ⟨by rfl, ?_⟩) hHeld ?_
  rotate_left
  · (intro w hSw; (try dsimp only at hSw); go_simp; try with_reducible rfl)
  simp only [Act.put, List.setIfInBounds_toArray, List.set_cons_zero, List.set_cons_succ]
  refine wpAnyH_take (i := 3) (v := ?_) rfl (by kernel_rfl) (by kernel_rfl) (by kernel_rfl) (fun c a w h => h) (Or.inl ⟨by rfl, ?_⟩) hHeld ?_
  rotate_left
  · (intro w hSw; (try dsimp only at hSw); go_simp; try with_reducible rfl)
  simp only [Act.put, List.setIfInBounds_toArray, List.set_cons_zero, List.set_cons_succ]
  refine wpAnyH_take (i := 4) (v := ?_) rfl (by kernel_rfl) (by kernel_rfl) (by kernel_rfl) (fun c a w h => h) (Or.inl ⟨by rfl, ?_⟩) hHeld ?_
  rotate_left
  · (intro w hSw; (try dsimp only at hSw); go_simp; try with_reducible rfl)
  simp only [Act.put, List.setIfInBounds_toArray, List.set_cons_zero, List.set_cons_succ]
  refine wpAnyH_take (i := 6) (v := ?_) rfl (by kernel_rfl) (by kernel_rfl) (by kernel_rfl) (fun c a w h => h) (Or.inl ⟨by rfl, ?_⟩) hHeld ?_
  rotate_left
  · (intro w hSw; (try dsimp only at hSw); go_simp; try with_reducible rfl)
  simp only [Act.put, List.setIfInBounds_toArray, List.set_cons_zero, List.set_cons_succ]
  refine wpAnyH_take (i := 7) (v := ?_) rfl (by kernel_rfl) (by kernel_rfl) (by kernel_rfl) (fun c a w h => h) (Or.inl ⟨by rfl, ?_⟩) hHeld ?_
  rotate_left
  · (intro w hSw; (try dsimp only at hSw); go_simp; try with_reducible rfl)
  simp only [Act.put, List.setIfInBounds_toArray, List.set_cons_zero, List.set_cons_succ]
  refine wpAnyH_take (i := 8) (v := ?_) rfl (by kernel_rfl) (by kernel_rfl) (by kernel_rfl) (fun c a w h => h) (Or.inl ⟨by rfl, ?_⟩) hHeld ?_
  rotate_left
  · (intro w hSw; (try dsimp only at hSw); go_simp; try with_reducible rfl)
  simp only [Act.put, List.setIfInBounds_toArray, List.set_cons_zero, List.set_cons_succ]
  refine wpAnyH_take (i := 9) (v := ?_) rfl (by kernel_rfl) (by kernel_rfl) (by kernel_rfl) (fun c a w h => h) (Or.inl ⟨by rfl, ?_⟩) hHeld ?_
  rotate_left
  · (intro w hSw; (try dsimp only at hSw); go_simp; try with_reducible rfl)
  simp only [Act.put, List.setIfInBounds_toArray, List.set_cons_zero, List.set_cons_succ]
  refine wpAnyH_take (i := 10) (v := ?_) rfl (by kernel_rfl) (by kernel_rfl) (by kernel_rfl) (fun c a w h => h) (Or.inl ⟨by rfl, ?_⟩) hHeld ?_
  rotate_left
  · (intro w hSw; (try dsimp only at hSw); go_simp; try with_reducible rfl)
  simp only [Act.put, List.setIfInBounds_toArray, List.set_cons_zero, List.set_cons_succ]
  refine wpAnyH_ready (rs := [5]) (by kernel_rfl) (by simp) ?_
  refine AllReadyH.cons rfl (fun K hK => ?_) AllReadyH.nil
  go_simp
  refine k1.mono ?_
  rintro e w1 ⟨u1, rfl, r1, b1⟩
  obtain ⟨p1, c1, rfl⟩ := own_form r1
  have hM1 := HM.out.below b1
  have s1 := And.intro hM1.c3 hM1.c4
  have k2 := S.rcells br v.R w1 hM1.ps.r
  have HM1 := S.hid hM1
  have HU1 := S.hid (show S.RowU w1 Wd.heap.size (.slice p1 v.D.length c1) v.D from r1)
  have Hb1 := S.hid (show Below Wd.heap.size Wd w1 from b1)
  clear k1 r1 b1 hM1 s0
  refine hK.out _ _ s1 (fun hHeld => ?_)
  clear hK K
  try simp only [Act.put, List.setIfInBounds_toArray, List.set_cons_zero, List.set_cons_succ]
  refine wpAnyH_ready (rs := [11]) (by kernel_rfl) (by simp) ?_
  refine AllReadyH.cons rfl (fun K hK => ?_) AllReadyH.nil
  go_simp
  refine k2.mono ?_
  rintro e w2 ⟨u2, rfl, r2, b2⟩
  obtain ⟨p2, c2, rfl⟩ := own_form r2
  have hM2 := HM1.out.below b2
  have s2 := And.intro hM2.c3 hM2.c4
  obtain ⟨p1', c1', e1', _, sl1⟩ := (S.RowU.ls (show S.RowU w2 Wd.heap.size (.slice p1 v.D.length c1) v.D from S.own_kept HU1.out fun k _ hk => b2.block k hk)).ex
  obtain ⟨p2', c2', e2', _, sl2⟩ := (S.RowK.ls (show S.RowK w2 w1.heap.size (.slice p2 v.R.length c2) v.R from r2)).ex
  cases e1'
  cases e2'
  have hd := hM2.ps.d.2
  have hr := hM2.ps.r.2
  have k3 := S.stacks_any p1 p2 c1 c2 v.D v.R (Nat.le_trans hd (by unfold S.room; omega)) (Nat.le_trans hr (by unfold S.room; omega)) w2 sl1 sl2
  have HM2 := S.hid hM2
  have Hb2 := S.hid (show Below Wd.heap.size Wd w2 from trB Hb1.out b2 Hb1.out.size)
  clear k2 r2 b2 hM2 s1 sl1 sl2 hd hr
  refine hK.out _ _ s2 (fun hHeld => ?_)
  clear hK K
  try simp only [Act.put, List.setIfInBounds_toArray, List.set_cons_zero, List.set_cons_succ]
  refine wpAnyH_ready (rs := [12]) (by kernel_rfl) (by simp) ?_
  refine AllReadyH.cons rfl (fun K hK => ?_) AllReadyH.nil
  go_simp
  refine k3.mono ?_
  rintro e w3 ⟨b3, h3⟩
  rcases h3 with ⟨_, bd', br', rfl, hD3, hR3, l1, l2, l3⟩ | ⟨q, _⟩
  case inr => rw [HMS.out] at q; cases q
  have hM3 := HM2.out.below b3
  have s3 := And.intro hM3.c3 hM3.c4
  have hN3 : w3.heap[w.heap.size]? = some (.cells [.int .u16 v.pc, .int .i64 v.st, .int .i64 v.fa, .pointer (some ⟨bd, 0, none⟩), .pointer (some ⟨br, 0, none⟩), .slice kp v.code.length kc, .pointer (some ⟨bm, 0, none⟩)].toArray 128 (0, 0)) := (b3.block _ (Nat.lt_of_lt_of_le hsd Hb2.out.size)).trans ((Hb2.out.block _ hsd).trans HRd.out)
  have x3 := S.cell_of w3 _ 3 _ _ _ hN3 rfl
  have f3 := S.frozen_of w3 _ 3 _ _ hN3
  have hN4 := S.setCell_heap w3 w.heap.size 3 _ 128 (.pointer (some ⟨bd', 0, none⟩)) hN3
  have x4 := S.cell_of _ _ 4 _ _ _ hN4 rfl
  have f4 := S.frozen_of _ _ 4 _ _ hN4
  have hN5 := S.setCell_heap _ w.heap.size 4 _ 128 (.pointer (some ⟨br', 0, none⟩)) hN4
  have hgN : g ≠ w.heap.size := Nat.ne_of_lt H0.out.lt
  have s4 : (fun w' => w'.cell? ⟨g, 3, none⟩ = some (.pointer (some ⟨bd, 0, none⟩)) ∧ w'.cell? ⟨g, 4, none⟩ = some (.pointer (some ⟨br, 0, none⟩))) (w3.setCell ⟨w.heap.size, 3, none⟩ (.pointer (some ⟨bd', 0, none⟩))) := ⟨(World.cell?_of_block (a := ⟨g, 3, none⟩) (S.setCell_other w3 _ _ _ _ hgN)).trans s3.1, (World.cell?_of_block (a := ⟨g, 4, none⟩) (S.setCell_other w3 _ _ _ _ hgN)).trans s3.2⟩
  have s5 : (fun w' => w'.cell? ⟨g, 3, none⟩ = some (.pointer (some ⟨bd, 0, none⟩)) ∧ w'.cell? ⟨g, 4, none⟩ = some (.pointer (some ⟨br, 0, none⟩))) ((w3.setCell ⟨w.heap.size, 3, none⟩ (.pointer (some ⟨bd', 0, none⟩))).setCell ⟨w.heap.size, 4, none⟩ (.pointer (some ⟨br', 0, none⟩))) := ⟨(World.cell?_of_block (a := ⟨g, 3, none⟩) (S.setCell_other _ _ _ _ _ hgN)).trans s4.1, (World.cell?_of_block (a := ⟨g, 4, none⟩) (S.setCell_other _ _ _ _ _ hgN)).trans s4.2⟩
  have HM3 := S.hid hM3
  have HN5 := S.hid hN5
  have HX := S.hid (And.intro hD3 (And.intro hR3 (And.intro l1 (And.intro l2 l3))))
  have Hb3 := S.hid (show Below w2.heap.size w2 w3 from b3)
  clear k3 b3 hM3 s2 hN3 hN4 hN5 hD3 hR3 l1 l2 l3
  refine hK.out _ _ s3 (fun hHeld => ?_)
  clear hK K
  try simp only [Act.put, List.setIfInBounds_toArray, List.set_cons_zero, List.set_cons_succ]
  refine wpAnyH_take (i := 13) (v := ?_) rfl (by kernel_rfl) (by kernel_rfl) (by kernel_rfl) (fun c a w h => h) (Or.inl ⟨by rfl, ?_⟩) hHeld ?_
  rotate_left
  · (intro w hSw; (try dsimp only at hSw); go_simp; try with_reducible rfl)
  simp only [Act.put, List.setIfInBounds_toArray, List.set_cons_zero, List.set_cons_succ]
  refine wpAnyH_take (i := 14) (v := ?_) rfl (by kernel_rfl) (by kernel_rfl) (by kernel_rfl) (fun c a w h => h) (Or.inl ⟨by rfl, ?_⟩) hHeld ?_
  rotate_left
  · (intro w hSw; (try dsimp only at hSw); go_simp; try with_reducible rfl)
  simp only [Act.put, List.setIfInBounds_toArray, List.set_cons_zero, List.set_cons_succ]
  refine wpAnyH_take (i := 15) (v := ?_) rfl (by kernel_rfl) (by kernel_rfl) (by kernel_rfl) (fun c a w h => h) (Or.inl ⟨by rfl, ?_⟩) hHeld ?_
  rotate_left
  · (intro w hSw; (try dsimp only at hSw); go_simp; try with_reducible rfl)
  simp only [Act.put, List.setIfInBounds_toArray, List.set_cons_zero, List.set_cons_succ]
  refine wpAnyH_take (i := 16) (v := ?_) rfl (by kernel_rfl) (by kernel_rfl) (by kernel_rfl) (fun c a w h => h) (Or.inl ⟨by rfl, ?_⟩) hHeld ?_
  rotate_left
  · (intro w hSw; (try dsimp only at hSw); go_simp; try with_reducible rfl)
  simp only [Act.put, List.setIfInBounds_toArray, List.set_cons_zero, List.set_cons_succ]
  refine wpAnyH_take (i := 17) (v := ?_) rfl (by kernel_rfl) (by kernel_rfl) (by kernel_rfl) (fun c a w h => h) (Or.inl ⟨by rfl, ?_⟩) hHeld ?_
  rotate_left
  · (intro w hSw; (try dsimp only at hSw); go_simp; try with_reducible rfl)
  simp only [Act.put, List.setIfInBounds_toArray, List.set_cons_zero, List.set_cons_succ]
  refine wpAnyH_take (i := 18) (v := ?_) rfl (by kernel_rfl) (by kernel_rfl) (by kernel_rfl) (fun c a w h => h) (Or.inl ⟨by rfl, ?_⟩) hHeld ?_
  rotate_left
  · (intro w hSw; (try dsimp only at hSw); go_simp; try with_reducible rfl)
  simp only [Act.put, List.setIfInBounds_toArray, List.set_cons_zero, List.set_cons_succ]
  refine wpAnyH_ready (rs := [19]) (by kernel_rfl) (by simp) ?_
  refine AllReadyH.cons rfl (fun K hK => ?_) AllReadyH.nil
  go_simp
  refine hK.out _ _ s4 (fun hHeld => ?_)
  clear hK K
  refine wpAnyH_take (i := 20) (v := ?_) rfl (by kernel_rfl) (by kernel_rfl) (by kernel_rfl) (fun c a w h => h) (Or.inl ⟨by rfl, ?_⟩) hHeld ?_
  rotate_left
  · (intro w hSw; (try dsimp only at hSw); go_simp; try with_reducible rfl)
  simp only [Act.put, List.setIfInBounds_toArray, List.set_cons_zero, List.set_cons_succ]
  refine wpAnyH_take (i := 21) (v := ?_) rfl (by kernel_rfl) (by kernel_rfl) (by kernel_rfl) (fun c a w h => h) (Or.inl ⟨by rfl, ?_⟩) hHeld ?_
  rotate_left
  · (intro w hSw; (try dsimp only at hSw); go_simp; try with_reducible rfl)
  simp only [Act.put, List.setIfInBounds_toArray, List.set_cons_zero, List.set_cons_succ]
  refine wpAnyH_ready (rs := [22]) (by kernel_rfl) (by simp) ?_
  refine AllReadyH.cons rfl (fun K hK => ?_) AllReadyH.nil
  go_simp
  refine hK.out _ _ s5 (fun hHeld => ?_)
  clear hK K
  refine wpAnyH_done (by kernel_rfl) ?_ _
  clear hHeld s3 s4 s5 x3 x4 f3 f4
  have hB3 : Below w.heap.size w w3 := trB (trB (trB HB.out hBd.out HB.out.size) Hb2.out (Nat.le_of_lt hsd)) Hb3.out (Nat.le_trans (Nat.le_of_lt hsd) Hb2.out.size)
  obtain ⟨W5, hW5⟩ : ∃ W5, W5 = (w3.setCell ⟨w.heap.size, 3, none⟩ (.pointer (some ⟨bd', 0, none⟩))).setCell ⟨w.heap.size, 4, none⟩ (.pointer (some ⟨br', 0, none⟩)) := ⟨_, rfl⟩
  have o5 : ∀ k, k ≠ w.heap.size → W5.heap[k]? = w3.heap[k]? := fun k hk => by rw [hW5, S.setCell_other _ _ _ _ _ hk, S.setCell_other _ _ _ _ _ hk]
  have z5 : W5.heap.size = w3.heap.size := by rw [hW5, S.setCell_size, S.setCell_size]
  have hB5 : Below w.heap.size w W5 := ⟨by rw [hW5]; exact hB3.os, by rw [hW5]; exact hB3.tape, by rw [hW5]; exact hB3.output, by rw [z5]; exact hB3.size, fun k hk => (o5 k (by omega)).trans (hB3.block k hk)⟩
  have hM5 := H0.out.below hB5
  have c6 := hM5.c6
  have k5 := M.copy_any bm W5 hM5.ps.m ht
  have hN5 := HN5.out
  rw [← hW5] at hN5
  rw [← hW5]
  have HF := S.hid (And.intro hB5 (And.intro o5 (And.intro z5 hN5)))
  clear hB3 hW5 o5 z5 hB5 hM5 hN5 HN5
  go_wp2_with fail
  refine k5.mono ?_
  rintro e w6 ⟨b', rfl, hm6, b6⟩
  have hN6 : w6.heap[w.heap.size]? = some (.cells [.int .u16 v.pc, .int .i64 v.st, .int .i64 v.fa, .pointer (some ⟨bd', 0, none⟩), .pointer (some ⟨br', 0, none⟩), .slice kp v.code.length kc, .pointer (some ⟨bm, 0, none⟩)].toArray 128 (0, 0)) := (b6.block _ (S.lt_of HF.out.2.2.2)).trans HF.out.2.2.2
  have x6 := S.cell_of w6 _ 6 _ _ _ hN6 rfl
  have f6 := S.frozen_of w6 _ 6 _ _ hN6
  have hfin := copy_mv w w3 W5 w6 g bd br bm bd' br' b' kp kc F v H0.out HF.out.1 HF.out.2.1 HF.out.2.2.1 hN6 HX.out.1 HX.out.2.1 (Nat.lt_of_lt_of_le hsd (Nat.le_trans Hb2.out.size HX.out.2.2.1)) (Nat.lt_of_lt_of_le hsd (Nat.le_trans Hb2.out.size HX.out.2.2.2.1)) HX.out.2.2.2.2 hm6 b6
  have HG := S.hid hfin
  clear hfin hm6 b6 k5 c6 hN6
  go_wp2
  go_ret
  exact ⟨w.heap.size, bd', br', b', _, rfl, HG.out⟩
end Go.Proofs.YteldjmecomngeaaGreat.V
/-! Memory; the law's same. -/
namespace Go.Proofs.YteldjmecomngeaaGreat.V
open Go.RowKit
open Go.Proofs
set_option linter.unusedVariables false
set_option linter.unusedSimpArgs false
set_option maxHeartbeats 2000000
set_option maxRecDepth 100000
theorem memory_any (g bd br bm : Nat) (kv : Value) (F : Nat → Prop) (v : VS) (w : World) (h : MV w g bd br bm kv F v) : Calls Tryz.prog 18 #[.pointer (some ⟨g, 0, none⟩)] w fun e w' => e = .returned (.pointer (some ⟨bm, 0, none⟩)) ∧ w' = w := by
  have c6 := h.c6
  clear h
  go_enter Tryz.func18, Tryz.ntmps18
  go_wp2
  go_ret
  exact ⟨rfl, rfl⟩
theorem neq_cell (W : World) (k x : Int) : (binOp .neq 101 (.agg #[.int .i64 k, .int .u16 x]) (.agg #[.int .i64 k, .int .u16 x])).run Tryz.prog W = .ok (.bool false) W := by
  have hs : Tryz.prog.underlying 101 = some (.struct (Tryz.prog.fieldsOf 101)) := by kernel_rfl
  have hf : Tryz.prog.fieldsOf 101 = #[⟨ "Kind", 3, 0, false, "", "", 0⟩, ⟨ "Value", 23, 1, false, "", "", 8⟩] := by kernel_rfl
  have hp : Tryz.prog.stoodInHeld 101 = false := by kernel_rfl
  have k1 : Tryz.prog.cellsOf 23 = 1 := by kernel_rfl
  have k2 : Tryz.prog.cellsOf 3 = 1 := by kernel_rfl
  rw [run_neq_struct, run_equalIn_agg W 9999 _ _ _ hs hp, hf]
  simp [go_sem, Tryz.underlying23, Tryz.underlying3, k1, k2, Result.andThen]
theorem same_true (v : VS) (p1 p2 q1 q2 : Option Addr) (cp1 cp2 cq1 cq2 : Nat) (hd : v.D.length ≤ 256) (hr : v.R.length ≤ 128) (w : World) (h1 : S.Sl S.eU 1 w p1 v.D) (h2 : S.Sl S.eK 2 w p2 v.R) (h3 : S.Sl S.eU 1 w q1 v.D) (h4 : S.Sl S.eK 2 w q2 v.R) :
    Calls Tryz.prog 22 #[StV v (.slice p1 v.D.length cp1) (.slice p2 v.R.length cp2), StV v (.slice q1 v.D.length cq1) (.slice q2 v.R.length cq2)] w fun e w' => e = .returned (.bool true) ∧ Below w.heap.size w w' := by
  unfold StV
  obtain ⟨W, hW⟩ : ∃ W, W = ((w.alloc (.cells #[.int .u16 v.pc, .int .i64 v.st, .int .i64 v.fa, .slice p1 v.D.length cp1, .slice p2 v.R.length cp2] 46)).alloc (.cells #[.int .u16 v.pc, .int .i64 v.st, .int .i64 v.fa, .slice q1 v.D.length cq1, .slice q2 v.R.length cq2] 46)) := ⟨_, rfl⟩
  have hB : Below w.heap.size w W := by rw [hW]; exact ((Below.refl _ w).alloc (Nat.le_refl _) _).alloc (by simp) _
  have n1 : W.heap[w.heap.size]? = some (.cells #[.int .u16 v.pc, .int .i64 v.st, .int .i64 v.fa, .slice p1 v.D.length cp1, .slice p2 v.R.length cp2] 46 (0, 0)) := by rw [hW]; exact heap_alloc2_old w _ _
  have n2 : W.heap[w.heap.size + 1]? = some (.cells #[.int .u16 v.pc, .int .i64 v.st, .int .i64 v.fa, .slice q1 v.D.length cq1, .slice q2 v.R.length cq2] 46 (0, 0)) := by rw [hW]; exact heap_alloc2_new w _ _
  have HB := S.hid hB
  have H1 := S.hid (h1.below hB)
  have H2 := S.hid (h2.below hB)
  have H3 := S.hid (h3.below hB)
  have H4 := S.hid (h4.below hB)
  have a3 := fun q => (show (W.drewN q).cell? ⟨w.heap.size, 3, none⟩ = some (.slice p1 v.D.length cp1) from S.cell_of W _ 3 [.int .u16 v.pc, .int .i64 v.st, .int .i64 v.fa, .slice p1 v.D.length cp1, .slice p2 v.R.length cp2] _ _ n1 rfl)
  have a4 := fun q => (show (W.drewN q).cell? ⟨w.heap.size, 4, none⟩ = some (.slice p2 v.R.length cp2) from S.cell_of W _ 4 [.int .u16 v.pc, .int .i64 v.st, .int .i64 v.fa, .slice p1 v.D.length cp1, .slice p2 v.R.length cp2] _ _ n1 rfl)
  have b3 := fun q => (show (W.drewN q).cell? ⟨w.heap.size + 1, 3, none⟩ = some (.slice q1 v.D.length cq1) from S.cell_of W _ 3 [.int .u16 v.pc, .int .i64 v.st, .int .i64 v.fa, .slice q1 v.D.length cq1, .slice q2 v.R.length cq2] _ _ n2 rfl)
  have b4 := fun q => (show (W.drewN q).cell? ⟨w.heap.size + 1, 4, none⟩ = some (.slice q2 v.R.length cq2) from S.cell_of W _ 4 [.int .u16 v.pc, .int .i64 v.st, .int .i64 v.fa, .slice q1 v.D.length cq1, .slice q2 v.R.length cq2] _ _ n2 rfl)
  have aw0 := S.cell_of W _ 0 [.int .u16 v.pc, .int .i64 v.st, .int .i64 v.fa, .slice p1 v.D.length cp1, .slice p2 v.R.length cp2] _ _ n1 rfl
  have aw1 := S.cell_of W _ 1 [.int .u16 v.pc, .int .i64 v.st, .int .i64 v.fa, .slice p1 v.D.length cp1, .slice p2 v.R.length cp2] _ _ n1 rfl
  have aw2 := S.cell_of W _ 2 [.int .u16 v.pc, .int .i64 v.st, .int .i64 v.fa, .slice p1 v.D.length cp1, .slice p2 v.R.length cp2] _ _ n1 rfl
  have aw3 := S.cell_of W _ 3 [.int .u16 v.pc, .int .i64 v.st, .int .i64 v.fa, .slice p1 v.D.length cp1, .slice p2 v.R.length cp2] _ _ n1 rfl
  have aw4 := S.cell_of W _ 4 [.int .u16 v.pc, .int .i64 v.st, .int .i64 v.fa, .slice p1 v.D.length cp1, .slice p2 v.R.length cp2] _ _ n1 rfl
  have bw0 := S.cell_of W _ 0 [.int .u16 v.pc, .int .i64 v.st, .int .i64 v.fa, .slice q1 v.D.length cq1, .slice q2 v.R.length cq2] _ _ n2 rfl
  have bw1 := S.cell_of W _ 1 [.int .u16 v.pc, .int .i64 v.st, .int .i64 v.fa, .slice q1 v.D.length cq1, .slice q2 v.R.length cq2] _ _ n2 rfl
  have bw2 := S.cell_of W _ 2 [.int .u16 v.pc, .int .i64 v.st, .int .i64 v.fa, .slice q1 v.D.length cq1, .slice q2 v.R.length cq2] _ _ n2 rfl
  have bw3 := S.cell_of W _ 3 [.int .u16 v.pc, .int .i64 v.st, .int .i64 v.fa, .slice q1 v.D.length cq1, .slice q2 v.R.length cq2] _ _ n2 rfl
  have bw4 := S.cell_of W _ 4 [.int .u16 v.pc, .int .i64 v.st, .int .i64 v.fa, .slice q1 v.D.length cq1, .slice q2 v.R.length cq2] _ _ n2 rfl
  have ns := neq_cell
  have hW' := hW.symm
  clear h1 h2 h3 h4 hB n1 n2 hW
  go_enter Tryz.func22, Tryz.ntmps22
  go_wp2
  go_loopw [47] (fun i wr => ∃ k q : Nat, k ≤ v.D.length ∧ i = .int .i64 (k : Int) ∧ wr = W.drewN q) (fun i _ => v.D.length - (intOf i).toNat)
  case atStart => exact ⟨0, 0, by omega, rfl, rfl⟩
  case round =>
    obtain ⟨k, q, hk, rfl, rfl⟩ := hrel
    by_cases hlt : k < v.D.length
    · have i1 : (k : Int) < v.D.length := by omega
      obtain ⟨b, o, rfl, e1⟩ := H1.out.u k v.D[k] (List.getElem?_eq_getElem hlt)
      obtain ⟨b', o', rfl, f1⟩ := H3.out.u k v.D[k] (List.getElem?_eq_getElem hlt)
      generalize v.D[k] = t at *
      have g1 : ∀ q, (W.drewN q).cell? ⟨b, o + k, none⟩ = some (.int .u16 t) := fun q => e1
      have g4 : ∀ q, (W.drewN q).cell? ⟨b', o' + k, none⟩ = some (.int .u16 t) := fun q => f1
      have w1' : wrap64 ((k : Int) + 1) = ((k + 1 : Nat) : Int) := by simp [wrap64]; omega
      go_wp2_with fail
      go_quiet (fail)
      go_wp2
      go_roundw
      case rel =>
        first
          | exact ⟨k + 1, _, hlt, (by first | rfl | rw [w1']), rfl⟩
          | ((repeat apply Exists.intro); refine ⟨⟨k + 1, _, hlt, ?_, rfl⟩, rfl⟩; first | rfl | rw [w1'])
      case measure => exact msr2 _ _ _ k (by first | rfl | rw [w1']) rfl hlt
    · obtain rfl : k = v.D.length := by omega
      go_wp2
      go_loopw [65] (fun i wr => ∃ k q : Nat, k ≤ v.R.length ∧ i = .int .i64 (k : Int) ∧ wr = W.drewN q) (fun i _ => v.R.length - (intOf i).toNat)
      case atStart => exact ⟨0, q, by omega, rfl, rfl⟩
      case round =>
        obtain ⟨k, q, hk, rfl, rfl⟩ := hrel
        by_cases hlt : k < v.R.length
        · have i1 : (k : Int) < v.R.length := by omega
          obtain ⟨b, o, rfl, e1, e2⟩ := H2.out.k k v.R[k] (List.getElem?_eq_getElem hlt)
          obtain ⟨b', o', rfl, f1, f2⟩ := H4.out.k k v.R[k] (List.getElem?_eq_getElem hlt)
          generalize v.R[k] = t at *
          have g1 : ∀ q, (W.drewN q).cell? ⟨b, o + k * 2, none⟩ = some (.int .i64 t.1) := fun q => e1
          have g2 : ∀ q, (W.drewN q).cell? ⟨b, o + k * 2 + 1, none⟩ = some (.int .u16 t.2) := fun q => e2
          have g3 : ∀ q, (W.drewN q).cell? ⟨b', o' + k * 2, none⟩ = some (.int .i64 t.1) := fun q => f1
          have g4 : ∀ q, (W.drewN q).cell? ⟨b', o' + k * 2 + 1, none⟩ = some (.int .u16 t.2) := fun q => f2
          have w1' : wrap64 ((k : Int) + 1) = ((k + 1 : Nat) : Int) := by simp [wrap64]; omega
          go_wp2_with fail
          go_quiet (fail)
          go_wp2
          go_roundw
          case rel =>
            first
              | exact ⟨k + 1, _, hlt, (by first | rfl | rw [w1']), rfl⟩
              | ((repeat apply Exists.intro); refine ⟨⟨k + 1, _, hlt, ?_, rfl⟩, rfl⟩; first | rfl | rw [w1'])
          case measure => exact msr2 _ _ _ k (by first | rfl | rw [w1']) rfl hlt
        · obtain rfl : k = v.R.length := by omega
          go_wp2
          go_ret
          exact ⟨rfl, dnB HB.out _⟩
end Go.Proofs.YteldjmecomngeaaGreat.V
/-! As one: a frame's work is steps, one behind the other. -/
namespace Go.Proofs.YteldjmecomngeaaGreat.V
open Go.RowKit
open Go.Proofs
set_option linter.unusedVariables false
set_option linter.unusedSimpArgs false
set_option maxHeartbeats 2000000
set_option maxRecDepth 100000
/-- Where so many instructions lead, and what they cost. -/
def it : Nat → VS → Int → VS × Int
  | 0, u, s => (u, s)
  | i + 1, u, s => it i (doo (look u).op (look u).x (cyc s u)).2 (s + P.rc (look u).op)
/-- An instruction that is done at u behind s cycles. -/
def okI (u : VS) (s : Int) : Prop := u.st = 1 ∧ (look u).f = 0 ∧ (doo (look u).op (look u).x (cyc s u)).1 = 0
/-- How a frame's work ends at u behind s cycles, with what. -/
def endI (B : Int) (u : VS) (s : Int) (v : VS) : Prop :=
  (v = u ∧ (u.st ≠ 1 ∨ B ≤ s ∨ ((look u).f = 0 ∧ B - s < P.rc (look u).op))) ∨
  (u.st = 1 ∧ s < B ∧ (look u).f ≠ 0 ∧ v = fail (look u).f u) ∨
  (u.st = 1 ∧ s < B ∧ (look u).f = 0 ∧ P.rc (look u).op ≤ B - s ∧ (doo (look u).op (look u).x (cyc s u)).1 ≠ 0 ∧ v = fail (doo (look u).op (look u).x (cyc s u)).1 (cyc s u))
theorem wk_it (B : Int) : ∀ (k : Nat) (u : VS) (n s : Int), B - s ≤ (k : Int) → ∃ N : Nat, (wk k B u n s).steps = n + N ∧ (wk k B u n s).spent = (it N u s).2 ∧ (∀ i, i < N → okI (it i u s).1 (it i u s).2) ∧ (∀ i, i + 1 < N → (look (it i u s).1).op ≠ 10) ∧
    ((0 < N ∧ (look (it (N - 1) u s).1).op = 10 ∧ (wk k B u n s).v = (it N u s).1) ∨ (endI B (it N u s).1 (it N u s).2 (wk k B u n s).v ∧ ∀ i, i < N → (look (it i u s).1).op ≠ 10))
  | 0, u, n, s, h => ⟨0, by simp [wk], rfl, fun i hi => by omega, fun i hi => by omega, .inr ⟨.inl ⟨rfl, .inr (.inl (by show B ≤ s; omega))⟩, fun i hi => by omega⟩⟩
  | k + 1, u, n, s, h => by
    have hr := rc_r (look u).op
    unfold wk
    by_cases q : u.st = 1 ∧ s < B
    case neg =>
      rw [if_neg q]
      exact ⟨0, by simp, rfl, fun i hi => by omega, fun i hi => by omega, .inr ⟨.inl ⟨rfl, by show u.st ≠ 1 ∨ B ≤ s ∨ _; by_cases a : u.st = 1; exact .inr (.inl (by have : ¬ s < B := fun c => q ⟨a, c⟩; omega)); exact .inl a⟩, fun i hi => by omega⟩⟩
    rw [if_pos q]
    by_cases q3 : (look u).f = 0
    case neg =>
      rw [if_neg q3]
      exact ⟨0, by simp, rfl, fun i hi => by omega, fun i hi => by omega, .inr ⟨.inr (.inl ⟨q.1, q.2, q3, rfl⟩), fun i hi => by omega⟩⟩
    rw [if_pos q3]
    by_cases q4 : B - s < P.rc (look u).op
    · rw [if_pos q4]
      exact ⟨0, by simp, rfl, fun i hi => by omega, fun i hi => by omega, .inr ⟨.inl ⟨rfl, .inr (.inr ⟨q3, q4⟩)⟩, fun i hi => by omega⟩⟩
    rw [if_neg q4]
    by_cases q5 : (doo (look u).op (look u).x (cyc s u)).1 = 0
    case neg =>
      rw [if_neg q5]
      exact ⟨0, by simp, rfl, fun i hi => by omega, fun i hi => by omega, .inr ⟨.inr (.inr ⟨q.1, q.2, q3, by show P.rc (look u).op ≤ B - s; omega, q5, rfl⟩), fun i hi => by omega⟩⟩
    rw [if_pos q5]
    by_cases q6 : (look u).op = 10
    · rw [if_pos q6]
      refine ⟨1, by simp, rfl, fun i hi => ?_, fun i hi => by omega, .inl ⟨by omega, q6, rfl⟩⟩
      obtain rfl : i = 0 := by omega
      exact ⟨q.1, q3, q5⟩
    rw [if_neg q6]
    obtain ⟨N, h1, h2, h3, h4, h5⟩ := wk_it B k (doo (look u).op (look u).x (cyc s u)).2 (n + 1) (s + P.rc (look u).op) (by omega)
    refine ⟨N + 1, by rw [h1]; omega, h2, fun i hi => ?_, fun i hi => ?_, ?_⟩
    · cases i with
      | zero => exact ⟨q.1, q3, q5⟩
      | succ i => exact h3 i (by omega)
    · cases i with
      | zero => exact q6
      | succ i => exact h4 i (by omega)
    · rcases h5 with ⟨a, b, c⟩ | ⟨a, b⟩
      · refine .inl ⟨by omega, ?_, c⟩
        obtain ⟨M, rfl⟩ : ∃ M, N = M + 1 := ⟨N - 1, by omega⟩
        exact b
      · refine .inr ⟨a, fun i hi => ?_⟩
        cases i with
        | zero => exact q6
        | succ i => exact b i (by omega)
/-! ### The cycle does not matter -/
theorem turn_cyc (s : Int) (v : VS) : (turn (cyc s v)).f = (turn v).f ∧ (turn (cyc s v)).b = (turn v).b ∧ (turn (cyc s v)).v = cyc s (turn v).v := by
  have e : (cyc s v).R = v.R := rfl
  unfold turn
  rw [e]
  cases v.R.reverse with
  | nil => exact ⟨rfl, rfl, rfl⟩
  | cons a t =>
    obtain ⟨k, i⟩ := a
    simp only
    by_cases q1 : k = 3
    · cases t with
      | nil => simp [q1]
      | cons b t2 =>
        obtain ⟨k2, l⟩ := b
        by_cases q2 : k2 = 2
        · by_cases q3 : (i + 1) % 65536 = l
          · simp [q1, q2, q3, cyc]
          · simp [q1, q2, q3, cyc]
        · simp [q1, q2]
    · simp [q1]
theorem look_cyc (s : Int) (v : VS) : look (cyc s v) = look v := rfl
theorem fl_cyc (op x be : Int) (s : Int) (v : VS) : (dn op x be (cyc s v)).f = (dn op x be v).f := by
  unfold dn
  split
  · by_cases q : 128 < v.R.length + 1
    · rw [if_pos (show 128 < (cyc s v).R.length + 1 from q), if_pos q]
    · rw [if_neg (show ¬ 128 < (cyc s v).R.length + 1 from q), if_neg q]
  · by_cases q : 256 < v.D.length + 1
    · rw [if_pos (show 256 < (cyc s v).D.length + 1 from q), if_pos q]
    · rw [if_neg (show ¬ 256 < (cyc s v).D.length + 1 from q), if_neg q]
  · by_cases q : 256 < v.D.length + 1
    · rw [if_pos (show 256 < (cyc s v).D.length + 1 from q), if_pos q]
    · rw [if_neg (show ¬ 256 < (cyc s v).D.length + 1 from q), if_neg q]
  · rfl
  · have e : (cyc s v).D = v.D := rfl
    rw [e]
    cases v.D.reverse <;> rfl
  · obtain ⟨t1, t2, _⟩ := turn_cyc s v
    rw [t2]
    cases (turn v).b
    · exact t1
    · rfl
  · have e : (cyc s v).R = v.R := rfl
    rw [e]
    cases v.R.reverse with
    | nil => rfl
    | cons a t =>
      obtain ⟨k, i⟩ := a
      simp only
      by_cases q : k = 1
      · simp [q]
      · simp [q]
  · rfl
  · rfl
  · rfl
theorem doo_cyc (op : Nat) (x s : Int) (v : VS) : (doo op x (cyc s v)).1 = (doo op x v).1 := fl_cyc _ _ _ _ _
/-- The twin's step is the frame's instruction. -/
theorem step_it (u : VS) (s : Int) (h : okI u s) : step (cyc s u) = ((look u).op == 10, (doo (look u).op (look u).x (cyc s u)).2) := by
  obtain ⟨h1, h2, h3⟩ := h
  unfold step
  rw [if_pos (show (cyc s u).st = 1 from h1), look_cyc, if_pos h2, if_pos h3]
end Go.Proofs.YteldjmecomngeaaGreat.V
/-! VmExact: what the loop holds. -/
namespace Go.Proofs.YteldjmecomngeaaGreat.V
open Go.RowKit
open Go.Proofs
set_option linter.unusedVariables false
set_option linter.unusedSimpArgs false
set_option maxHeartbeats 40000000
set_option maxRecDepth 100000
/-- Numbers that a slice tells. -/
def Is (W : World) (p : Option Addr) (zs : List Int) : Prop := ∀ (i : Nat) (a : Int), zs[i]? = some a → ∃ b o, p = some ⟨b, o, none⟩ ∧ W.cell? ⟨b, o + i, none⟩ = some (.int .i64 a)
theorem Is.below {W W' : World} {p : Option Addr} {zs : List Int} (h : Is W p zs) {n : Nat} (hn : n = W.heap.size) (b : Below n W W') : Is W' p zs := by
  subst hn
  intro i a hi
  obtain ⟨x, o, e, k⟩ := h i a hi
  exact ⟨x, o, e, T.below_cell b _ _ k⟩
structure XI (w wr : World) (g bd br bm : Nat) (ku : Value) (F : Nat → Prop) (L0 : Nat) (u : VS) (over : Bool) (row : Array Value) : Prop where
  mv : MV wr g bd br bm ku F u
  fr : Fresh w.heap.size g bd br bm ku F
  bel : Below w.heap.size w wr
  l0 : w.heap.size ≤ L0
  lg : L0 ≠ g
  ld : L0 ≠ bd
  lr : L0 ≠ br
  lf : ¬ F L0
  lk : ∀ k, ku.ownBlock = some k → k ≠ L0
  blk : wr.heap[L0]? = some (.cells row 39 (0, 0))
  st : St u
  sz : row.size = 7
  ov : over = true → u.st ≠ 1 ∧ ∃ p c a2 a3 a4 a6, row = #[.int .i64 u.st, .int .i64 u.fa, a2, a3, a4, .slice p u.m.scr.length c, a6] ∧ M.Row wr w.heap.size (.slice p u.m.scr.length c) u.m.scr ∧ ∀ k, (Value.slice p u.m.scr.length c).ownBlock = some k → ¬ F k
theorem row_is5 {W : World} {B : Nat} {v : Value} {l : List UInt8} (h : M.Row W B v l) (k : Nat) (e : v.ownBlock = some k) : is5 W k := by
  obtain ⟨cur, q⟩ := M.own_block h k e
  exact ⟨cur, _, q⟩
theorem row_apart {W : World} {B : Nat} {v : Value} {l : List UInt8} {g bd br bm : Nat} {ku : Value} {F : Nat → Prop} {u : VS} (h : M.Row W B v l) (m : MV W g bd br bm ku F u) (k : Nat) (e : v.ownBlock = some k) : k ≠ g ∧ k ≠ bd ∧ k ≠ br := by
  obtain ⟨c, x, q⟩ := row_is5 h k e
  refine ⟨?_, ?_, ?_⟩
  · rintro rfl; rw [m.blk] at q; simp at q
  · rintro rfl; rw [m.ps.d.1] at q; simp at q
  · rintro rfl; rw [m.ps.r.1] at q; simp at q
/-- A frame's row in the world behind it. -/
theorem XI.kept {w wr w1 : World} {g bd br bm : Nat} {ku : Value} {F : Nat → Prop} {L0 : Nat} {u u' : VS} {over : Bool} {row : Array Value} (I : XI w wr g bd br bm ku F L0 u over row) (h : VD wr w1 g bd br bm ku F u') {v : Value} {l : List UInt8} {B : Nat} (hr : M.Row wr B v l) (hf : ∀ k, v.ownBlock = some k → ¬ F k) : M.Row w1 B v l :=
  S.own_kept hr fun k e hk => h.t.block k hk (by
    obtain ⟨a, b, c⟩ := row_apart hr I.mv k e
    rintro (q | q | q | q)
    · exact a q
    · exact b q
    · exact c q
    · exact hf k e q)
theorem XI.blk1 {w wr w1 : World} {g bd br bm : Nat} {ku : Value} {F : Nat → Prop} {L0 : Nat} {u u' : VS} {over : Bool} {row : Array Value} (I : XI w wr g bd br bm ku F L0 u over row) (h : VD wr w1 g bd br bm ku F u') : w1.heap[L0]? = some (.cells row 39 (0, 0)) :=
  (h.t.block L0 (S.lt_of I.blk) (by
    rintro (q | q | q | q)
    · exact I.lg q
    · exact I.ld q
    · exact I.lr q
    · exact I.lf q)).trans I.blk
theorem XI.bel1 {w wr w1 : World} {g bd br bm : Nat} {ku : Value} {F : Nat → Prop} {L0 : Nat} {u u' : VS} {over : Bool} {row : Array Value} (I : XI w wr g bd br bm ku F L0 u over row) (h : VD wr w1 g bd br bm ku F u') : Below w.heap.size w w1 :=
  I.bel.trans (tcB h I.fr I.bel.size)
/-- The next round. -/
theorem XI.next {w wr w1 w6 : World} {g bd br bm : Nat} {ku : Value} {F : Nat → Prop} {L0 : Nat} {u : VS} {over : Bool} {row : Array Value} (I : XI w wr g bd br bm ku F L0 u over row) (r : WK) (B : Int) (h : VD wr w1 g bd br bm ku F r.v) (hs : St r.v) (p1 p2 : Option Addr) (c1 c2 : Nat)
    (hr : M.Row w1 wr.heap.size (.slice p1 r.v.m.scr.length c1) r.v.m.scr) (hb : Below w1.heap.size w1 w6) :
    XI w (w6.setRow L0 #[.int .i64 r.v.st, .int .i64 r.v.fa, .int .i64 r.steps, .int .i64 r.spent, .int .i64 (B - r.spent), .slice p1 r.v.m.scr.length c1, .slice p2 r.v.m.tones.length c2]) g bd br bm ku (fun k => M.gr F wr w1 k ∧ ¬ is5 w1 k) L0 r.v (r.v.st != 1)
      #[.int .i64 r.v.st, .int .i64 r.v.fa, .int .i64 r.steps, .int .i64 r.spent, .int .i64 (B - r.spent), .slice p1 r.v.m.scr.length c1, .slice p2 r.v.m.tones.length c2] := by
  have hL : L0 < wr.heap.size := S.lt_of I.blk
  have hs1 := h.t.size
  have nf : ¬ (M.gr F wr w1 L0 ∧ ¬ is5 w1 L0) := by rintro ⟨q | ⟨q, _⟩, _⟩; exact I.lf q; omega
  have hb1 := I.blk1 h
  have hb6 := (hb.block L0 (by omega)).trans hb1
  have hr6 := hr.below hb
  have hne : ∀ k, (Value.slice p1 r.v.m.scr.length c1).ownBlock = some k → k ≠ L0 := fun k e => by have := own_lt hr k e; omega
  refine ⟨((h.s.no5).below hb).setRow L0 _ I.lg I.ld I.lr nf I.lk, ⟨I.fr.g, I.fr.d, I.fr.r, I.fr.k, ?_⟩, ?_, I.l0, I.lg, I.ld, I.lr, nf, I.lk, setRow_heap _ _ _ _ _ _ hb6, hs, rfl, fun ho => ⟨by simpa using ho, p1, c1, _, _, _, _, rfl, ?_, ?_⟩⟩
  · rintro k ⟨q | ⟨q, _⟩, _⟩
    · exact I.fr.f k q
    · have := I.bel.size; omega
  · exact P.Below.setRow (trB (I.bel1 h) hb (I.bel1 h).size) L0 I.l0 _
  · exact S.own_mono (S.own_kept hr6 fun k e _ => setRow_other w6 L0 k _ (hne k e)) I.bel.size
  · rintro k e ⟨_, q⟩
    exact q (row_is5 hr k e)
end Go.Proofs.YteldjmecomngeaaGreat.V
/-! As one: two machines in one world. -/
namespace Go.Proofs.YteldjmecomngeaaGreat.V
open Go.RowKit
open Go.Proofs
set_option linter.unusedVariables false
set_option linter.unusedSimpArgs false
set_option maxHeartbeats 2000000
set_option maxRecDepth 100000
theorem it_succ : ∀ (i : Nat) (u : VS) (s : Int), it (i + 1) u s = ((doo (look (it i u s).1).op (look (it i u s).1).x (cyc (it i u s).2 (it i u s).1)).2, (it i u s).2 + P.rc (look (it i u s).1).op)
  | 0, u, s => rfl
  | i + 1, u, s => by
    show it (i + 1) _ _ = _
    rw [it_succ i]
    rfl
theorem it_r : ∀ (i : Nat) (u : VS) (s : Int), s + i ≤ (it i u s).2 ∧ (it i u s).2 ≤ s + 4 * i
  | 0, u, s => by show s + (0 : Nat) ≤ s ∧ s ≤ s + 4 * (0 : Nat); omega
  | i + 1, u, s => by
    have h := it_r i u s
    have hr := rc_r (look (it i u s).1).op
    rw [it_succ]
    show s + (i + 1 : Nat) ≤ (it i u s).2 + P.rc (look (it i u s).1).op ∧ (it i u s).2 + P.rc (look (it i u s).1).op ≤ s + 4 * (i + 1 : Nat)
    omega
theorem it_tones : ∀ (i : Nat) (u : VS) (s : Int), (it i u s).1.m.tones.length ≤ u.m.tones.length + 3 * i
  | 0, u, s => by show u.m.tones.length ≤ u.m.tones.length + 3 * 0; omega
  | i + 1, u, s => by
    have h := it_tones i u s
    have hd := doo_tones (look (it i u s).1).op (look (it i u s).1).x (cyc (it i u s).2 (it i u s).1)
    have hc : (cyc (it i u s).2 (it i u s).1).m.tones.length = (it i u s).1.m.tones.length := rfl
    rw [it_succ]
    show (doo (look (it i u s).1).op (look (it i u s).1).x (cyc (it i u s).2 (it i u s).1)).2.m.tones.length ≤ _
    omega
theorem look_doo (u : VS) (s : Int) : look (cyc s u) = look u := rfl
/-- The twin's last step. -/
theorem step_no (u : VS) (h1 : u.st = 1) (h2 : (look u).f ≠ 0) : step u = (false, fail (look u).f u) := by
  unfold step
  rw [if_pos h1, if_neg h2]
theorem step_bad (u : VS) (s : Int) (h1 : u.st = 1) (h2 : (look u).f = 0) (h3 : (doo (look u).op (look u).x (cyc s u)).1 ≠ 0) : step u = (false, fail (doo (look u).op (look u).x (cyc s u)).1 u) := by
  rw [doo_cyc] at h3 ⊢
  unfold step
  rw [if_pos h1, if_pos h2, if_neg h3]
theorem fail_cyc (f s : Int) (u : VS) : fail f (cyc s u) = cyc s (fail f u) := rfl
theorem cyc_self (u : VS) : u = cyc u.m.cyc u := rfl
theorem bg_cyc (s p : Int) (u : VS) : ({ cyc s u with m := M.bg (cyc s u).m p } : VS) = { u with m := M.bg u.m p } := rfl
/-! ### Two machines -/
theorem MV.kept {W W' : World} {g bd br bm : Nat} {kv : Value} {F : Nat → Prop} {v : VS} (h : MV W g bd br bm kv F v) (hs : W.heap.size ≤ W'.heap.size) (k : ∀ i, i < W.heap.size → (TV g bd br F i ∨ kv.ownBlock = some i) → W'.heap[i]? = W.heap[i]?) : MV W' g bd br bm kv F v :=
  { h with
    blk := (k _ h.lt (.inl (.inl rfl))).trans h.blk
    ps := ⟨h.ps.d.kept (k _ h.lt_d (.inl (.inr (.inl rfl)))), h.ps.r.kept (k _ h.lt_r (.inl (.inr (.inr (.inl rfl))))), h.ps.m.kept fun i hi f => k i hi (.inl (.inr (.inr (.inr f)))), h.ps.dr, h.ps.fd, h.ps.fr⟩
    code := sl_kept h.code fun i e hi => k i hi (.inr e)
    ck := fun i e => Nat.lt_of_lt_of_le (h.ck i e) hs
    fb := fun i e => Nat.lt_of_lt_of_le (h.fb i e) hs }
theorem MV.tv_lt {W : World} {g bd br bm : Nat} {kv : Value} {F : Nat → Prop} {v : VS} (h : MV W g bd br bm kv F v) (k : Nat) (e : TV g bd br F k) : k < W.heap.size := by
  rcases e with rfl | rfl | rfl | e
  · exact h.lt
  · exact h.lt_d
  · exact h.lt_r
  · exact h.fb k e
theorem MV.code_no {W : World} {g bd br bm : Nat} {kv : Value} {F : Nat → Prop} {v : VS} (h : MV W g bd br bm kv F v) (k : Nat) (e : kv.ownBlock = some k) : ¬ TV g bd br F k := by
  obtain ⟨a, b, c, d⟩ := h.cb k e
  rintro (q | q | q | q)
  · exact a q
  · exact b q
  · exact c q
  · exact d q
/-- A call of the one leaves the other as it was. -/
theorem MV.beside {W W' : World} {g bd br bm g' bd' br' bm' : Nat} {kv : Value} {F F' : Nat → Prop} {v u u' : VS} (h : MV W g bd br bm kv F v) (k : VD W W' g' bd' br' bm' kv F' u') (a : MV W g' bd' br' bm' kv F' u) (ap : ∀ i, TV g bd br F i → ¬ TV g' bd' br' F' i) : MV W' g bd br bm kv F v :=
  h.kept k.t.size fun i hi e => k.t.block i hi (by
    rcases e with e | e
    · exact ap i e
    · exact a.code_no i e)
theorem tv_gr {W W' : World} {g bd br : Nat} {F : Nat → Prop} {k : Nat} (h : TV g bd br (M.gr F W W') k) : TV g bd br F k ∨ W.heap.size ≤ k := by
  rcases h with h | h | h | h | ⟨h, _⟩
  · exact .inl (.inl h)
  · exact .inl (.inr (.inl h))
  · exact .inl (.inr (.inr (.inl h)))
  · exact .inl (.inr (.inr (.inr h)))
  · exact .inr h
structure TW (n : Nat) (W : World) (g bd br bm g' bd' br' bm' : Nat) (kv : Value) (F F' : Nat → Prop) (u u' : VS) : Prop where
  a : MV W g bd br bm kv F u
  b : MV W g' bd' br' bm' kv F' u'
  ap : ∀ k, TV g bd br F k → ¬ TV g' bd' br' F' k
  fa : Fresh n g bd br bm kv F
  fb : Fresh n g' bd' br' bm' kv F'
  nw : n ≤ W.heap.size
section
variable {n : Nat} {W W' : World} {g bd br bm g' bd' br' bm' : Nat} {kv : Value} {F F' : Nat → Prop} {u u' v : VS}
theorem TW.below (h : TW n W g bd br bm g' bd' br' bm' kv F F' u u') (k : Below W.heap.size W W') : TW n W' g bd br bm g' bd' br' bm' kv F F' u u' :=
  ⟨h.a.below k, h.b.below k, h.ap, h.fa, h.fb, Nat.le_trans h.nw k.size⟩
theorem TW.left (h : TW n W g bd br bm g' bd' br' bm' kv F F' u u') (k : VD W W' g bd br bm kv F v) : TW n W' g bd br bm g' bd' br' bm' kv (M.gr F W W') F' v u' :=
  ⟨k.s, h.b.beside k h.a (fun i e f => h.ap i f e), fun i e f => by
    rcases tv_gr e with q | q
    · exact h.ap i q f
    · have := h.b.tv_lt i f; omega,
   ⟨h.fa.g, h.fa.d, h.fa.r, h.fa.k, by rintro i (q | ⟨q, _⟩); exact h.fa.f i q; have := h.nw; omega⟩, h.fb, Nat.le_trans h.nw k.t.size⟩
theorem TW.right (h : TW n W g bd br bm g' bd' br' bm' kv F F' u u') (k : VD W W' g' bd' br' bm' kv F' v) : TW n W' g bd br bm g' bd' br' bm' kv F (M.gr F' W W') u v :=
  ⟨h.a.beside k h.b h.ap, k.s, fun i f e => by
    rcases tv_gr e with q | q
    · exact h.ap i f q
    · have := h.a.tv_lt i f; omega,
   h.fa, ⟨h.fb.g, h.fb.d, h.fb.r, h.fb.k, by rintro i (q | ⟨q, _⟩); exact h.fb.f i q; have := h.nw; omega⟩, Nat.le_trans h.nw k.t.size⟩
end
/-- What stands while the twin goes on: the blocks from lo to hi stay. -/
structure KI (w wo wc : World) (lo : Nat) (g bd br bm g' bd' br' bm' : Nat) (kv : Value) (F G : Nat → Prop) (u x : VS) : Prop where
  tw : TW w.heap.size wc g bd br bm g' bd' br' bm' kv F G u x
  nt : ∀ k, lo ≤ k → k < wo.heap.size → ¬ TV g' bd' br' G k
  kp : ∀ k, lo ≤ k → k < wo.heap.size → wc.heap[k]? = wo.heap[k]?
  sz : wo.heap.size ≤ wc.heap.size
  bl : Below w.heap.size w wc
section
variable {w wo wc w2 : World} {lo g bd br bm g' bd' br' bm' : Nat} {kv : Value} {F G : Nat → Prop} {u x y : VS}
theorem KI.below (h : KI w wo wc lo g bd br bm g' bd' br' bm' kv F G u x) (k : Below wc.heap.size wc w2) : KI w wo w2 lo g bd br bm g' bd' br' bm' kv F G u x :=
  ⟨h.tw.below k, h.nt, fun i a b => (k.block i (Nat.lt_of_lt_of_le b h.sz)).trans (h.kp i a b), Nat.le_trans h.sz k.size, trB h.bl k h.tw.nw⟩
theorem KI.right (h : KI w wo wc lo g bd br bm g' bd' br' bm' kv F G u x) (k : VD wc w2 g' bd' br' bm' kv G y) : KI w wo w2 lo g bd br bm g' bd' br' bm' kv F (M.gr G wc w2) u y :=
  ⟨h.tw.right k, fun i a b e => by
      rcases tv_gr e with q | q
      · exact h.nt i a b q
      · have := h.sz; omega,
    fun i a b => (k.t.block i (Nat.lt_of_lt_of_le b h.sz) (h.nt i a b)).trans (h.kp i a b), Nat.le_trans h.sz k.t.size, h.bl.trans (tcB k h.tw.fb h.tw.nw)⟩
theorem KI.row (h : KI w wo wc lo g bd br bm g' bd' br' bm' kv F G u x) {e : TypeId} {size : Nat} {v : Value} {n : Nat} {xs : List Value} (hr : wo.ownsRow lo e size v n xs) : wc.ownsRow lo e size v n xs :=
  S.own_kept hr fun k e hk => h.kp k (own_lt hr k e).1 hk
/-- The frame is behind us, its answer lies from lo on. -/
theorem KI.first {wr w1 : World} {F0 : Nat → Prop} {u0 : VS} (h : TW w.heap.size wr g bd br bm g' bd' br' bm' kv F0 G u0 x) (hB : Below w.heap.size w wr) (k : VD wr w1 g bd br bm kv F0 u) (b : Below w1.heap.size w1 wo) : KI w wo wo wr.heap.size g bd br bm g' bd' br' bm' kv (M.gr F0 wr w1) G u x :=
  ⟨(h.left k).below b, fun i a _ e => by have := h.b.tv_lt i e; omega, fun _ _ _ => rfl, Nat.le_refl _, trB (hB.trans (tcB k h.fa h.nw)) b (Nat.le_trans h.nw k.t.size)⟩
end
end Go.Proofs.YteldjmecomngeaaGreat.V
