import Derived.Test.YteldjmecomngeaaGreatG8
import Derived.Laws.StructEq
import Derived.Deep.RegionHeld
/-! Copy, walked. -/
namespace Go.Proofs.YteldjmecomngeaaGreat.M
open Go.RowKit
open Go.Proofs
open Go.ChangeMaps (setBlock)
set_option linter.unusedVariables false
set_option linter.unusedSimpArgs false
theorem CP.start {w : World} {F : Nat → Prop} {b : Nat} {m : MS} {mb : Nat} {L : List (Nat × Nat)} {tv : Value} (h : MemP w F b m mb L tv) (wB wD wE : World) (hB : wB.heap[w.heap.size]? = some (.cells (mcells mb m tv).toArray 146 (0, 0))) (zB : wB.heap.size = w.heap.size + 1) (bB : Below w.heap.size w wB)
    (eD : wD = (wB.alloc (.map #[] 0)).setCell ⟨w.heap.size, 0, none⟩ (.map (some (w.heap.size + 1)))) (eE : wE = wD.alloc (.mapIter (some mb) L.length #[] L.length)) :
    CP w wE m mb L tv [] [] ∧ wD.heap[mb]? = some (.map (ents 0 L).toArray L.length) ∧ wD.heap.size = w.heap.size + 2 := by
  have c0 : (wB.alloc (.map #[] 0)).heap[w.heap.size]? = some (.cells (mcells mb m tv).toArray 146 (0, 0)) := (Below.heap_alloc _ _ _ (by omega)).trans hB
  have d0 : wD.heap[w.heap.size]? = some (.cells (mcells (w.heap.size + 1) m tv).toArray 146 (0, 0)) := by rw [eD, setCell_heap _ _ 0 _ 146 _ c0, mcells_set_0]
  have zD : wD.heap.size = w.heap.size + 2 := by rw [eD, setCell_size]; simp; omega
  have d1 : wD.heap[w.heap.size + 1]? = some (.map #[] 0) := by
    rw [eD, setCell_other _ _ _ _ _ (by omega), ← zB]; exact heap_alloc_new wB _
  have bD : Below w.heap.size w wD := by rw [eD]; exact (bB.alloc bB.size _).setCell (p := ⟨w.heap.size, 0, none⟩) (Nat.le_refl _) _
  have kE : ∀ k, k < wD.heap.size → wE.heap[k]? = wD.heap[k]? := fun k hk => by rw [eE]; exact Below.heap_alloc wD _ k hk
  have bE : Below w.heap.size w wE := by rw [eE]; exact bD.alloc (by omega) _
  refine ⟨⟨?_, by simp, ?_, bE, by simp, by simp⟩, (bD.block _ (lt_of h.map)).trans h.map, zD⟩
  · refine ⟨⟨h.wf.ram, h.wf.scr, h.wf.ch0, h.wf.ch1, h.wf.pad0, h.wf.pad1, h.wf.pitch0, h.wf.pitch1, h.wf.vol0, h.wf.vol1, h.wf.time0, h.wf.time1, by intro n l e; simp [visB] at e⟩, (kE _ (by omega)).trans d0, (kE _ (by omega)).trans d1, by simp, by simp, by simp, by simp, by intro n l e; simp [visB] at e, ?_, .inl (Nat.le_refl _), .inl (by omega), by simp, fun g e => .inr e⟩
    exact own_kept h.tones fun g e hg => bE.block g hg
  · rw [eE, ← zD]; exact heap_alloc_new wD _
theorem own_form0 {w : World} {B : Nat} {e : TypeId} {size : Nat} {v : Value} {n : Nat} {xs : List Value} (h : w.ownsRow B e size v n xs) : ∃ p cap, v = .slice p n cap := by
  rcases h.2 with ⟨h, e⟩ | ⟨g, cap, cur, h1, _⟩
  · exact ⟨none, 0, by rw [h, e]⟩
  · exact ⟨_, cap, h1⟩
set_option maxHeartbeats 4000000
set_option maxRecDepth 100000
theorem copy_any (b : Nat) (w : World) {F : Nat → Prop} {m : MS} (hm : HasM w F b m) (ht : m.tones.length ≤ 1000000) :
    Calls Tryz.prog 52 #[.pointer (some ⟨b, 0, none⟩)] w fun e w' => ∃ b', e = .returned (.pointer (some ⟨b', 0, none⟩)) ∧ HasM w' (fun k => w.heap.size ≤ k) b' m ∧ Below w.heap.size w w' := by
  obtain ⟨mb, L, tv, hm⟩ := hm
  have hone : tv.oneCell' = true := by rcases hm.tones.2 with ⟨e, _⟩ | ⟨g, cap, cur, e, _⟩ <;> (rw [e]; rfl)
  have z86 := zeroValue86
  have z83 := zeroValue83
  have hmm := @run_makeMap Tryz.prog
  have hsz : (mcells mb m tv).toArray.size = 19464 := by rw [List.size_toArray]; exact mcells_len mb m tv hm.wf
  have hz86 : zero86.toArray.size = 19464 := by rw [List.size_toArray]; exact zero86_len
  have h86 : (w.alloc (.cells zero86.toArray 146)).heap[w.heap.size]? = some (.cells zero86.toArray 146 (0, 0)) := heap_alloc_new w _
  have hall : (mcells mb m tv).toArray.all (·.oneCell') = true := by rw [List.all_toArray, List.all_eq_true]; exact mcells_one mb m tv hone
  obtain ⟨wB, hwB⟩ : ∃ wB, (w.alloc (.cells zero86.toArray 146)).setRow w.heap.size (mcells mb m tv).toArray = wB := ⟨_, rfl⟩
  have bB0 : wB.heap[w.heap.size]? = some (.cells (mcells mb m tv).toArray 146 (0, 0)) := by rw [← hwB]; exact setRow_eq _ _ zero86 146 _ h86
  have zB : wB.heap.size = w.heap.size + 1 := by rw [← hwB, size_setRow]; simp
  have bB : Below w.heap.size w wB := by
    rw [← hwB]
    exact ⟨rfl, rfl, rfl, by rw [size_setRow]; simp, fun k hk => (setRow_other _ _ _ _ (by omega)).trans (Below.heap_alloc w _ k hk)⟩
  obtain ⟨wD, hwD⟩ : ∃ wD, (wB.alloc (.map #[] 0)).setCell ⟨w.heap.size, 0, none⟩ (.map (some (w.heap.size + 1))) = wD := ⟨_, rfl⟩
  obtain ⟨hCP, hmD, zD⟩ := CP.start hm wB wD _ bB0 zB bB hwD.symm rfl
  have hrg := run_range_map (P := Tryz.prog) wD 142 3 176 mb _ _ Tryz.underlying142 hmD
  have cN : (wB.alloc (.map #[] 0)).cell? ⟨w.heap.size, 0, none⟩ = some (.map (some mb)) := cell_of _ _ 0 _ 146 _ ((Below.heap_alloc _ _ _ (by omega)).trans bB0) (mcells_0 _ _ _)
  have zN := frozen_of (wB.alloc (.map #[] 0)) w.heap.size 0 _ 146 ((Below.heap_alloc _ _ _ (by omega)).trans bB0)
  have cS : wD.cell? ⟨b, 0, none⟩ = some (.map (some mb)) := cell_of _ _ 0 _ 146 _ (by rw [← hwD, setCell_other _ _ _ _ _ (by have := lt_of hm.blk; omega), Below.heap_alloc _ _ _ (by have := lt_of hm.blk; omega)]; exact (bB.block _ (lt_of hm.blk)).trans hm.blk) (mcells_0 _ _ _)
  rw [zD] at hrg
  have HM : Hid _ := hm
  have HC : Hid _ := hCP
  have hwbk := hm.blk
  clear hm hCP hmD bB bB0
  go_enter Tryz.func52, Tryz.ntmps52
  go_wp2_with (first
    | (refine wpList_load_row rfl 146 (.tmp 10) rfl b (by simp [Act.eval]) 146 (mcells mb m tv).toArray (0, 0) _ hwbk Tryz.underlying146 rfl (by rw [info86s, hsz]) ?_)
    | (refine wpList_store_row rfl 146 (.tmp 3) (.tmp 11) rfl w.heap.size (mcells mb m tv).toArray (by simp [Act.eval]) (by simp [Act.eval]) 146 zero86.toArray h86 (by rw [info86s, hsz]) (by rw [hz86, hsz]) hall ?_))
  clear cN zN cS hwB hwD hrg z86 hmm h86 hall hsz hz86 hwbk
  go_loopw [] (fun wr => ∃ (vis : List Nat) (L' : List (Nat × Nat)), CP w wr m mb L tv vis L') (fun wr => leftN (w.heap.size + 2) L.length wr)
  case atStart => exact ⟨[], [], HC.out⟩
  case round =>
    clear HC
    obtain ⟨vis, L', hC⟩ := hrel
    have hborn : ∀ x ∈ (ents 0 L).toArray.toList, x.born < L.length := by
      intro x hx
      obtain ⟨j, p, h1, h2⟩ := (ents_mem L 0 x).1 (by simpa using hx)
      have := (List.getElem?_eq_some_iff.1 h1).1
      rw [h2]; simp; omega
    have hmap := (hC.bel.block _ (lt_of HM.out.map)).trans HM.out.map
    go_wp2_with (first | (refine wpList_next_law rfl (.tmp 18) rfl (w.heap.size + 2) mb L.length L.length vis.toArray (ents 0 L).toArray L.length (by simp [Act.eval]) hC.it hmap hborn (Nat.le_refl _) ?_))
    intro v w' hcase
    unfold NX at hcase
    rcases hcase with ⟨h0, rfl, rfl⟩ | ⟨e, he, w1, hw1, rfl, hW2⟩
    · have hvall : ∀ j, j < L.length → j ∈ vis := by
        intro j hj
        by_cases c : j ∈ vis
        · exact c
        exfalso
        have hmem : ({ key := .int .i64 ((L[j]).1 : Int), val := .pointer (some ⟨(L[j]).2, 0, none⟩), born := 0 + j } : MapEntry) ∈ ents 0 L := (ents_mem L 0 _).2 ⟨j, L[j], List.getElem?_eq_getElem hj, rfl⟩
        have : leftOf (ents 0 L).toArray vis.toArray = #[] := Array.eq_empty_of_size_eq_zero h0
        unfold leftOf at this
        rw [Array.filter_eq_empty_iff] at this
        have h3 := this _ (by simpa using hmem)
        simp at h3
        exact c h3
      have hvb := visB_all m L vis HM.out.all hvall
      have hT : MemP w' (fun k => w.heap.size ≤ k ∨ tv.ownBlock = some k) w.heap.size m (w.heap.size + 1) L' tv := by have := hC.twin; rw [hvb] at this; exact this
      have c9 : w'.cell? ⟨b, 19463, none⟩ = some tv := cell_of _ _ (19457 + 6) _ 146 _ ((hC.bel.block _ (lt_of HM.out.blk)).trans HM.out.blk) ((mcells_reg mb m tv HM.out.wf 6).trans rfl)
      have hct := cloneT_any tv m.tones ht w' (own_kept HM.out.tones fun g e hg => hC.bel.block g hg)
      have HT : Hid _ := hT
      have HCf : Hid _ := hC
      clear hT hC hvb hvall hmap hborn h0
      go_wp2_with fail
      refine hct.mono ?_
      rintro e9 w2 ⟨u9, rfl, hT9, hb9⟩
      have hT2 := HT.out.kept (W' := w2) fun i hi _ => hb9.block i hi
      have hN := HCf.out.bel.size
      have hfin := hT2.retone (G := fun k => w.heap.size ≤ k) (own_mono hT9 (Nat.zero_le _)) (Nat.le_refl _) (by omega) HCf.out.fbk (fun g e => by have := (hT9.lt g e).1; omega)
      have hbl : Below w.heap.size w (w2.setCell ⟨w.heap.size, 19463, none⟩ u9) := (HCf.out.bel.trans (hb9.mono hN)).setCell (p := ⟨w.heap.size, 19463, none⟩) (Nat.le_refl _) _
      have k9 := cell_of w2 w.heap.size (19457 + 6) _ 146 _ hT2.blk ((mcells_reg _ m tv HM.out.wf 6).trans rfl)
      have z9 := frozen_of w2 w.heap.size 19463 _ 146 hT2.blk
      simp only [Nat.reduceAdd] at k9
      obtain ⟨p9, c99, rfl⟩ := own_form0 hT9
      have HF : Hid _ := hfin
      have HBl : Hid _ := hbl
      clear hfin hbl hT2 hT9 hb9 hct c9
      go_wp2
      go_ret
      exact ⟨_, rfl, ⟨_, _, _, HF.out⟩, HBl.out⟩
    · have hmem : e ∈ ents 0 L ∧ e.born ∉ vis := by
        unfold leftOf at he
        simp at he
        exact ⟨he.1, by simpa using he.2⟩
      obtain ⟨j, p, hj, rfl⟩ := (ents_mem L 0 e).1 hmem.1
      obtain ⟨n, g⟩ := p
      have hv : j ∉ vis := by simpa using hmem.2
      obtain ⟨l, hbn, hbk⟩ := HM.out.bks (n, g) (List.mem_of_getElem? hj)
      simp only [Nat.zero_add] at hW2 hmem
      have z1 : w1.heap = wr.heap := by rcases hw1 with rfl | rfl <;> rfl
      have hgr : g ≠ w.heap.size + 2 := by have := lt_of hbk; omega
      have hmr : mb ≠ w.heap.size + 2 := by have := lt_of HM.out.map; omega
      have hit2 : w'.heap[w.heap.size + 2]? = some (.mapIter (some mb) L.length (vis.toArray.push j) L.length) := by rw [hW2]; exact setBlock_same w1 _ _ _ (by rw [z1]; exact hC.it)
      have hmap2 : w'.heap[mb]? = some (.map (ents 0 L).toArray L.length) := by rw [hW2, setBlock_other _ _ _ _ hmr, z1]; exact hmap
      have hen := run_entry_at (P := Tryz.prog) w' (w.heap.size + 2) mb L.length vis.toArray (ents 0 L).toArray L.length { key := .int .i64 (n : Int), val := .pointer (some ⟨g, 0, none⟩), born := j } hit2 hmap2 (by simpa using hmem.1) (by simp only []; rw [ents_born]; exact List.nodup_range')
      have hbk2 : w'.heap[g]? = some (.cells (bv l).toArray 143 (0, 0)) := by rw [hW2, setBlock_other _ _ _ _ hgr, z1]; exact (hC.bel.block _ (lt_of hbk)).trans hbk
      have hll := (HM.out.wf.bk n l hbn).2
      have hs83 : (bv l).toArray.size = 16384 := by rw [List.size_toArray, bv_len]; exact hll
      have hz83 : zero83.toArray.size = 16384 := by rw [List.size_toArray]; exact zero83_len
      have hall : (bv l).toArray.all (·.oneCell') = true := by rw [List.all_toArray, List.all_eq_true]; exact bv_one l
      have h83 : (w'.alloc (.cells zero83.toArray 143)).heap[w'.heap.size]? = some (.cells zero83.toArray 143 (0, 0)) := heap_alloc_new w' _
      obtain ⟨W4, hW4⟩ : ∃ W4, (w'.alloc (.cells zero83.toArray 143)).setRow w'.heap.size (bv l).toArray = W4 := ⟨_, rfl⟩
      have h4 : Bk W4 w'.heap.size l := by rw [← hW4]; exact setRow_eq _ _ zero83 143 _ h83
      have z4 : W4.heap.size = w'.heap.size + 1 := by rw [← hW4, size_setRow]; simp
      have k4 : ∀ k, k < w'.heap.size → W4.heap[k]? = w'.heap[k]? := fun k hk => by rw [← hW4]; exact (setRow_other _ _ _ _ (by omega)).trans (Below.heap_alloc w' _ k hk)
      obtain ⟨cN4, W5, hput, hC5, hlt5⟩ := hC.round HM.out hw1 j n g l hj hv hbn hW2 k4 z4 h4 (by rw [← hW4]; rfl) (by rw [← hW4]; rfl) (by rw [← hW4]; rfl)
      have HC5 : Hid _ := hC5
      have HL5 : Hid _ := hlt5
      clear hC5 hlt5 hC hmap hborn he hmem hit2 hmap2 h4 z4 k4 hW2 hw1 z1 hv hj hbn hbk hll
      go_wp2_with (first
        | (refine wpList_load_row rfl 143 (.tmp 25) rfl g (by simp [Act.eval]) 143 (bv l).toArray (0, 0) _ hbk2 Tryz.underlying143 rfl (by rw [info83s, hs83]) ?_)
        | (refine wpList_store_row rfl 143 (.tmp 6) (.tmp 26) rfl w'.heap.size (bv l).toArray (by simp [Act.eval]) (by simp [Act.eval]) 143 zero83.toArray h83 (by rw [info83s, hs83]) (by rw [hz83, hs83]) hall ?_))
      go_roundw
      case rel =>
        first
          | exact ⟨_, _, HC5.out⟩
          | ((repeat apply Exists.intro); exact ⟨⟨_, _, HC5.out⟩, rfl⟩)
      case measure => exact HL5.out
end Go.Proofs.YteldjmecomngeaaGreat.M
/-! Copy. -/
namespace Go.Proofs.YteldjmecomngeaaGreat.V
open Go.RowKit
open Go.Proofs
set_option linter.unusedVariables false
set_option linter.unusedSimpArgs false
set_option maxHeartbeats 2000000
set_option maxRecDepth 100000
theorem size128 : (Tryz.prog.info? 128).map (·.size) = some 7 := by kernel_rfl
def zM : Array Value := #[.int .u16 0, .int .i64 0, .int .i64 0, .pointer none, .pointer none, .slice none 0 0, .pointer none]
theorem copy_mv (w w3 W5 w6 : World) (g bd br bm bd' br' b' : Nat) (kp : Option Addr) (kc : Nat) (F : Nat → Prop) (v : VS) (h : MV w g bd br bm (.slice kp v.code.length kc) F v) (hB5 : Below w.heap.size w W5) (o5 : ∀ k, k ≠ w.heap.size → W5.heap[k]? = w3.heap[k]?) (z5 : W5.heap.size = w3.heap.size)
    (hN6 : w6.heap[w.heap.size]? = some (.cells [.int .u16 v.pc, .int .i64 v.st, .int .i64 v.fa, .pointer (some ⟨bd', 0, none⟩), .pointer (some ⟨br', 0, none⟩), .slice kp v.code.length kc, .pointer (some ⟨bm, 0, none⟩)].toArray 128 (0, 0))) (hD : S.HasD w3 bd' v.D) (hR : S.HasR w3 br' v.R) (l1 : w.heap.size < bd') (l2 : w.heap.size < br') (l3 : bd' ≠ br')
    (hm : M.HasM w6 (fun k => W5.heap.size ≤ k) b' v.m) (b6 : Below W5.heap.size W5 w6) :
    MV (w6.setCell ⟨w.heap.size, 6, none⟩ (.pointer (some ⟨b', 0, none⟩))) w.heap.size bd' br' b' (.slice kp v.code.length kc) (fun k => W5.heap.size ≤ k ∧ k < w6.heap.size) v ∧ (w.heap.size ≤ w.heap.size ∧ w.heap.size ≤ bd' ∧ w.heap.size ≤ br' ∧ ∀ k, (W5.heap.size ≤ k ∧ k < w6.heap.size) → w.heap.size ≤ k) ∧ Below w.heap.size w (w6.setCell ⟨w.heap.size, 6, none⟩ (.pointer (some ⟨b', 0, none⟩))) := by
  have o7 : ∀ k, k ≠ w.heap.size → (w6.setCell ⟨w.heap.size, 6, none⟩ (.pointer (some ⟨b', 0, none⟩))).heap[k]? = w6.heap[k]? := fun k hk => S.setCell_other w6 _ _ _ _ hk
  have s5 := hB5.size
  have s6 := b6.size
  have d3 := S.lt_of hD.1
  have r3 := S.lt_of hR.1
  have hB7 : Below w.heap.size w (w6.setCell ⟨w.heap.size, 6, none⟩ (.pointer (some ⟨b', 0, none⟩))) := by
    have q := trB hB5 b6 hB5.size
    exact ⟨q.os, q.tape, q.output, by rw [S.setCell_size]; exact q.size, fun k hk => (o7 k (by omega)).trans (q.block k hk)⟩
  have hN : w.heap.size < w6.heap.size := S.lt_of hN6
  have hN5 : w.heap.size < W5.heap.size := by
    have := d3; omega
  refine ⟨⟨S.setCell_heap w6 w.heap.size 6 _ 128 _ hN6, ⟨hD.kept ((o7 _ (by omega)).trans ((b6.block _ (by omega)).trans (o5 _ (by omega)))), hR.kept ((o7 _ (by omega)).trans ((b6.block _ (by omega)).trans (o5 _ (by omega)))), (hm.mono fun i hi e => ⟨e, hi⟩).kept fun k hk f => o7 k (by omega), l3, by rintro ⟨e, _⟩; omega, by rintro ⟨e, _⟩; omega⟩, h.code.below hB7, h.clen, ?_, ?_, ?_, by omega, by omega, by rintro ⟨e, _⟩; omega, h.wf⟩, ⟨Nat.le_refl _, by omega, by omega, by rintro k ⟨e, _⟩; omega⟩, hB7⟩
  · intro k e; have := h.ck k e; have := hB7.size; omega
  · intro k e; have := h.ck k e; exact ⟨by omega, by omega, by omega, by rintro ⟨e, _⟩; omega⟩
  · rintro k ⟨_, e⟩; rw [S.setCell_size]; exact e
theorem copy_any (g bd br bm : Nat) (kv : Value) (F : Nat → Prop) (v : VS) (hm : S.mayS v.D v.R = true) (ht : v.m.tones.length ≤ 1000000) (w : World) (h : MV w g bd br bm kv F v) :
    Calls Tryz.prog 19 #[.pointer (some ⟨g, 0, none⟩)] w fun e w' => ∃ g' bd' br' bm' F', e = .returned (.pointer (some ⟨g', 0, none⟩)) ∧ MV w' g' bd' br' bm' kv F' v ∧ (w.heap.size ≤ g' ∧ w.heap.size ≤ bd' ∧ w.heap.size ≤ br' ∧ ∀ k, F' k → w.heap.size ≤ k) ∧ Below w.heap.size w w' := by
  obtain ⟨kp, kc, rfl, _⟩ := h.code.ex
  have r1 := heap_alloc_new w (.cells #[.int .u16 v.pc, .int .i64 v.st, .int .i64 v.fa, .pointer (some ⟨bd, 0, none⟩), .pointer (some ⟨br, 0, none⟩), .slice kp v.code.length kc, .pointer (some ⟨bm, 0, none⟩)] 128)
  have b1 := P.bel_alloc w (.cells #[.int .u16 v.pc, .int .i64 v.st, .int .i64 v.fa, .pointer (some ⟨bd, 0, none⟩), .pointer (some ⟨br, 0, none⟩), .slice kp v.code.length kc, .pointer (some ⟨bm, 0, none⟩)] 128)
  have hblk : w.heap[g]? = some (.cells #[.int .u16 v.pc, .int .i64 v.st, .int .i64 v.fa, .pointer (some ⟨bd, 0, none⟩), .pointer (some ⟨br, 0, none⟩), .slice kp v.code.length kc, .pointer (some ⟨bm, 0, none⟩)] 128 (0, 0)) := h.blk
  have hM := h.below b1
  generalize hW : w.alloc (.cells #[.int .u16 v.pc, .int .i64 v.st, .int .i64 v.fa, .pointer (some ⟨bd, 0, none⟩), .pointer (some ⟨br, 0, none⟩), .slice kp v.code.length kc, .pointer (some ⟨bm, 0, none⟩)] 128) = W at *
  have hB1 : Below W.heap.size W W.drew := ⟨rfl, rfl, rfl, Nat.le_refl _, fun _ _ => rfl⟩
  have hM1 := hM.below hB1
  have s0 := And.intro hM1.c3 hM1.c4
  have k1 := S.dcells bd v.D W.drew hM1.ps.d
  have hs : w.heap.size < W.heap.size := S.lt_of r1
  have hsd : w.heap.size < W.drew.heap.size := hs
  have HRd := S.hid (show W.drew.heap[w.heap.size]? = some (.cells [.int .u16 v.pc, .int .i64 v.st, .int .i64 v.fa, .pointer (some ⟨bd, 0, none⟩), .pointer (some ⟨br, 0, none⟩), .slice kp v.code.length kc, .pointer (some ⟨bm, 0, none⟩)].toArray 128 (0, 0)) from r1)
  have HM := S.hid hM1
  have hBd := S.hid hB1
  have HB := S.hid b1
  have HR := S.hid r1
  have H0 := S.hid h
  have HMS := S.hid hm
  clear h hM hM1 b1 r1 hm
  go_enter Tryz.func19, Tryz.ntmps19
  go_wp2_with (refine wpList_load_row rfl 128 _ rfl g rfl 128 _ (0, 0) _ hblk Tryz.underlying128 rfl (by exact size128) ?_)
  try rw [hW]
  clear hblk
  refine wp_region_held_drew (S := (fun w' => w'.cell? ⟨g, 3, none⟩ = some (.pointer (some ⟨bd, 0, none⟩)) ∧ w'.cell? ⟨g, 4, none⟩ = some (.pointer (some ⟨br, 0, none⟩)))) (by kernel_rfl) s0 (fun hHeld => ?_)
  generalize hWd : W.drew = Wd at *
  refine wpAnyH_take (i := 0) (v := ?_) rfl (by kernel_rfl) (by kernel_rfl) (by kernel_rfl) (fun c a w h => h) (Or.inl ⟨by rfl, ?_⟩) hHeld ?_
  rotate_left
  · (intro w hSw; (try dsimp only at hSw); go_simp; try with_reducible rfl)
  simp only [Act.put, List.setIfInBounds_toArray, List.set_cons_zero, List.set_cons_succ]
  refine wpAnyH_take (i := 1) (v := ?_) rfl (by kernel_rfl) (by kernel_rfl) (by kernel_rfl) (fun c a w h => h) (Or.inl ⟨by rfl, ?_⟩) hHeld ?_
  rotate_left
  · (intro w hSw; (try dsimp only at hSw); go_simp; try with_reducible rfl)
  simp only [Act.put, List.setIfInBounds_toArray, List.set_cons_zero, List.set_cons_succ]
  refine wpAnyH_take (i := 2) (v := ?_) rfl (by kernel_rfl) (by kernel_rfl) (by kernel_rfl) (fun c a w h => h) (Or.inl ⟨by rfl, ?_⟩) hHeld ?_
  rotate_left
  · (intro w hSw; (try dsimp only at hSw); go_simp; try with_reducible rfl)
  simp only [Act.put, List.setIfInBounds_toArray, List.set_cons_zero, List.set_cons_succ]
  refine wpAnyH_take (i := 3) (v := ?_) rfl (by kernel_rfl) (by kernel_rfl) (by kernel_rfl) (fun c a w h => h) (Or.inl ⟨by rfl, ?_⟩) hHeld ?_
  rotate_left
  · (intro w hSw; (try dsimp only at hSw); go_simp; try with_reducible rfl)
  simp only [Act.put, List.setIfInBounds_toArray, List.set_cons_zero, List.set_cons_succ]
  refine wpAnyH_take (i := 4) (v := ?_) rfl (by kernel_rfl) (by kernel_rfl) (by kernel_rfl) (fun c a w h => h) (Or.inl ⟨by rfl, ?_⟩) hHeld ?_
  rotate_left
  · (intro w hSw; (try dsimp only at hSw); go_simp; try with_reducible rfl)
  simp only [Act.put, List.setIfInBounds_toArray, List.set_cons_zero, List.set_cons_succ]
  refine wpAnyH_take (i := 6) (v := ?_) rfl (by kernel_rfl) (by kernel_rfl) (by kernel_rfl) (fun c a w h => h) (Or.inl ⟨by rfl, ?_⟩) hHeld ?_
  rotate_left
  · (intro w hSw; (try dsimp only at hSw); go_simp; try with_reducible rfl)
  simp only [Act.put, List.setIfInBounds_toArray, List.set_cons_zero, List.set_cons_succ]
  refine wpAnyH_take (i := 7) (v := ?_) rfl (by kernel_rfl) (by kernel_rfl) (by kernel_rfl) (fun c a w h => h) (Or.inl ⟨by rfl, ?_⟩) hHeld ?_
  rotate_left
  · (intro w hSw; (try dsimp only at hSw); go_simp; try with_reducible rfl)
  simp only [Act.put, List.setIfInBounds_toArray, List.set_cons_zero, List.set_cons_succ]
  refine wpAnyH_take (i := 8) (v := ?_) rfl (by kernel_rfl) (by kernel_rfl) (by kernel_rfl) (fun c a w h => h) (Or.inl ⟨by rfl, ?_⟩) hHeld ?_
  rotate_left
  · (intro w hSw; (try dsimp only at hSw); go_simp; try with_reducible rfl)
  simp only [Act.put, List.setIfInBounds_toArray, List.set_cons_zero, List.set_cons_succ]
  refine wpAnyH_take (i := 9) (v := ?_) rfl (by kernel_rfl) (by kernel_rfl) (by kernel_rfl) (fun c a w h => h) (Or.inl ⟨by rfl, ?_⟩) hHeld ?_
  rotate_left
  · (intro w hSw; (try dsimp only at hSw); go_simp; try with_reducible rfl)
  simp only [Act.put, List.setIfInBounds_toArray, List.set_cons_zero, List.set_cons_succ]
  refine wpAnyH_take (i := 10) (v := ?_) rfl (by kernel_rfl) (by kernel_rfl) (by kernel_rfl) (fun c a w h => h) (Or.inl ⟨by rfl, ?_⟩) hHeld ?_
  rotate_left
  · (intro w hSw; (try dsimp only at hSw); go_simp; try with_reducible rfl)
  simp only [Act.put, List.setIfInBounds_toArray, List.set_cons_zero, List.set_cons_succ]
  refine wpAnyH_ready (rs := [5]) (by kernel_rfl) (by simp) ?_
  refine AllReadyH.cons rfl (fun K hK => ?_) AllReadyH.nil
  go_simp
  refine k1.mono ?_
  rintro e w1 ⟨u1, rfl, r1, b1⟩
  obtain ⟨p1, c1, rfl⟩ := own_form r1
  have hM1 := HM.out.below b1
  have s1 := And.intro hM1.c3 hM1.c4
  have k2 := S.rcells br v.R w1 hM1.ps.r
  have HM1 := S.hid hM1
  have HU1 := S.hid (show S.RowU w1 Wd.heap.size (.slice p1 v.D.length c1) v.D from r1)
  have Hb1 := S.hid (show Below Wd.heap.size Wd w1 from b1)
  clear k1 r1 b1 hM1 s0
  refine hK.out _ _ s1 (fun hHeld => ?_)
  clear hK K
  try simp only [Act.put, List.setIfInBounds_toArray, List.set_cons_zero, List.set_cons_succ]
  refine wpAnyH_ready (rs := [11]) (by kernel_rfl) (by simp) ?_
  refine AllReadyH.cons rfl (fun K hK => ?_) AllReadyH.nil
  go_simp
  refine k2.mono ?_
  rintro e w2 ⟨u2, rfl, r2, b2⟩
  obtain ⟨p2, c2, rfl⟩ := own_form r2
  have hM2 := HM1.out.below b2
  have s2 := And.intro hM2.c3 hM2.c4
  obtain ⟨p1', c1', e1', _, sl1⟩ := (S.RowU.ls (show S.RowU w2 Wd.heap.size (.slice p1 v.D.length c1) v.D from S.own_kept HU1.out fun k _ hk => b2.block k hk)).ex
  obtain ⟨p2', c2', e2', _, sl2⟩ := (S.RowK.ls (show S.RowK w2 w1.heap.size (.slice p2 v.R.length c2) v.R from r2)).ex
  cases e1'
  cases e2'
  have hd := hM2.ps.d.2
  have hr := hM2.ps.r.2
  have k3 := S.stacks_any p1 p2 c1 c2 v.D v.R (Nat.le_trans hd (by unfold S.room; omega)) (Nat.le_trans hr (by unfold S.room; omega)) w2 sl1 sl2
  have HM2 := S.hid hM2
  have Hb2 := S.hid (show Below Wd.heap.size Wd w2 from trB Hb1.out b2 Hb1.out.size)
  clear k2 r2 b2 hM2 s1 sl1 sl2 hd hr
  refine hK.out _ _ s2 (fun hHeld => ?_)
  clear hK K
  try simp only [Act.put, List.setIfInBounds_toArray, List.set_cons_zero, List.set_cons_succ]
  refine wpAnyH_ready (rs := [12]) (by kernel_rfl) (by simp) ?_
  refine AllReadyH.cons rfl (fun K hK => ?_) AllReadyH.nil
  go_simp
  refine k3.mono ?_
  rintro e w3 ⟨b3, h3⟩
  rcases h3 with ⟨_, bd', br', rfl, hD3, hR3, l1, l2, l3⟩ | ⟨q, _⟩
  case inr => rw [HMS.out] at q; cases q
  have hM3 := HM2.out.below b3
  have s3 := And.intro hM3.c3 hM3.c4
  have hN3 : w3.heap[w.heap.size]? = some (.cells [.int .u16 v.pc, .int .i64 v.st, .int .i64 v.fa, .pointer (some ⟨bd, 0, none⟩), .pointer (some ⟨br, 0, none⟩), .slice kp v.code.length kc, .pointer (some ⟨bm, 0, none⟩)].toArray 128 (0, 0)) := (b3.block _ (Nat.lt_of_lt_of_le hsd Hb2.out.size)).trans ((Hb2.out.block _ hsd).trans HRd.out)
  have x3 := S.cell_of w3 _ 3 _ _ _ hN3 rfl
  have f3 := S.frozen_of w3 _ 3 _ _ hN3
  have hN4 := S.setCell_heap w3 w.heap.size 3 _ 128 (.pointer (some ⟨bd', 0, none⟩)) hN3
  have x4 := S.cell_of _ _ 4 _ _ _ hN4 rfl
  have f4 := S.frozen_of _ _ 4 _ _ hN4
  have hN5 := S.setCell_heap _ w.heap.size 4 _ 128 (.pointer (some ⟨br', 0, none⟩)) hN4
  have hgN : g ≠ w.heap.size := Nat.ne_of_lt H0.out.lt
  have s4 : (fun w' => w'.cell? ⟨g, 3, none⟩ = some (.pointer (some ⟨bd, 0, none⟩)) ∧ w'.cell? ⟨g, 4, none⟩ = some (.pointer (some ⟨br, 0, none⟩))) (w3.setCell ⟨w.heap.size, 3, none⟩ (.pointer (some ⟨bd', 0, none⟩))) := ⟨(World.cell?_of_block (a := ⟨g, 3, none⟩) (S.setCell_other w3 _ _ _ _ hgN)).trans s3.1, (World.cell?_of_block (a := ⟨g, 4, none⟩) (S.setCell_other w3 _ _ _ _ hgN)).trans s3.2⟩
  have s5 : (fun w' => w'.cell? ⟨g, 3, none⟩ = some (.pointer (some ⟨bd, 0, none⟩)) ∧ w'.cell? ⟨g, 4, none⟩ = some (.pointer (some ⟨br, 0, none⟩))) ((w3.setCell ⟨w.heap.size, 3, none⟩ (.pointer (some ⟨bd', 0, none⟩))).setCell ⟨w.heap.size, 4, none⟩ (.pointer (some ⟨br', 0, none⟩))) := ⟨(World.cell?_of_block (a := ⟨g, 3, none⟩) (S.setCell_other _ _ _ _ _ hgN)).trans s4.1, (World.cell?_of_block (a := ⟨g, 4, none⟩) (S.setCell_other _ _ _ _ _ hgN)).trans s4.2⟩
  have HM3 := S.hid hM3
  have HN5 := S.hid hN5
  have HX := S.hid (And.intro hD3 (And.intro hR3 (And.intro l1 (And.intro l2 l3))))
  have Hb3 := S.hid (show Below w2.heap.size w2 w3 from b3)
  clear k3 b3 hM3 s2 hN3 hN4 hN5 hD3 hR3 l1 l2 l3
  refine hK.out _ _ s3 (fun hHeld => ?_)
  clear hK K
  try simp only [Act.put, List.setIfInBounds_toArray, List.set_cons_zero, List.set_cons_succ]
  refine wpAnyH_take (i := 13) (v := ?_) rfl (by kernel_rfl) (by kernel_rfl) (by kernel_rfl) (fun c a w h => h) (Or.inl ⟨by rfl, ?_⟩) hHeld ?_
  rotate_left
  · (intro w hSw; (try dsimp only at hSw); go_simp; try with_reducible rfl)
  simp only [Act.put, List.setIfInBounds_toArray, List.set_cons_zero, List.set_cons_succ]
  refine wpAnyH_take (i := 14) (v := ?_) rfl (by kernel_rfl) (by kernel_rfl) (by kernel_rfl) (fun c a w h => h) (Or.inl ⟨by rfl, ?_⟩) hHeld ?_
  rotate_left
  · (intro w hSw; (try dsimp only at hSw); go_simp; try with_reducible rfl)
  simp only [Act.put, List.setIfInBounds_toArray, List.set_cons_zero, List.set_cons_succ]
  refine wpAnyH_take (i := 15) (v := ?_) rfl (by kernel_rfl) (by kernel_rfl) (by kernel_rfl) (fun c a w h => h) (Or.inl ⟨by rfl, ?_⟩) hHeld ?_
  rotate_left
  · (intro w hSw; (try dsimp only at hSw); go_simp; try with_reducible rfl)
  simp only [Act.put, List.setIfInBounds_toArray, List.set_cons_zero, List.set_cons_succ]
  refine wpAnyH_take (i := 16) (v := ?_) rfl (by kernel_rfl) (by kernel_rfl) (by kernel_rfl) (fun c a w h => h) (Or.inl ⟨by rfl, ?_⟩) hHeld ?_
  rotate_left
  · (intro w hSw; (try dsimp only at hSw); go_simp; try with_reducible rfl)
  simp only [Act.put, List.setIfInBounds_toArray, List.set_cons_zero, List.set_cons_succ]
  refine wpAnyH_take (i := 17) (v := ?_) rfl (by kernel_rfl) (by kernel_rfl) (by kernel_rfl) (fun c a w h => h) (Or.inl ⟨by rfl, ?_⟩) hHeld ?_
  rotate_left
  · (intro w hSw; (try dsimp only at hSw); go_simp; try with_reducible rfl)
  simp only [Act.put, List.setIfInBounds_toArray, List.set_cons_zero, List.set_cons_succ]
  refine wpAnyH_take (i := 18) (v := ?_) rfl (by kernel_rfl) (by kernel_rfl) (by kernel_rfl) (fun c a w h => h) (Or.inl ⟨by rfl, ?_⟩) hHeld ?_
  rotate_left
  · (intro w hSw; (try dsimp only at hSw); go_simp; try with_reducible rfl)
  simp only [Act.put, List.setIfInBounds_toArray, List.set_cons_zero, List.set_cons_succ]
  refine wpAnyH_ready (rs := [19]) (by kernel_rfl) (by simp) ?_
  refine AllReadyH.cons rfl (fun K hK => ?_) AllReadyH.nil
  go_simp
  refine hK.out _ _ s4 (fun hHeld => ?_)
  clear hK K
  refine wpAnyH_take (i := 20) (v := ?_) rfl (by kernel_rfl) (by kernel_rfl) (by kernel_rfl) (fun c a w h => h) (Or.inl ⟨by rfl, ?_⟩) hHeld ?_
  rotate_left
  · (intro w hSw; (try dsimp only at hSw); go_simp; try with_reducible rfl)
  simp only [Act.put, List.setIfInBounds_toArray, List.set_cons_zero, List.set_cons_succ]
  refine wpAnyH_take (i := 21) (v := ?_) rfl (by kernel_rfl) (by kernel_rfl) (by kernel_rfl) (fun c a w h => h) (Or.inl ⟨by rfl, ?_⟩) hHeld ?_
  rotate_left
  · (intro w hSw; (try dsimp only at hSw); go_simp; try with_reducible rfl)
  simp only [Act.put, List.setIfInBounds_toArray, List.set_cons_zero, List.set_cons_succ]
  refine wpAnyH_ready (rs := [22]) (by kernel_rfl) (by simp) ?_
  refine AllReadyH.cons rfl (fun K hK => ?_) AllReadyH.nil
  go_simp
  refine hK.out _ _ s5 (fun hHeld => ?_)
  clear hK K
  refine wpAnyH_done (by kernel_rfl) ?_ _
  clear hHeld s3 s4 s5 x3 x4 f3 f4
  have hB3 : Below w.heap.size w w3 := trB (trB (trB HB.out hBd.out HB.out.size) Hb2.out (Nat.le_of_lt hsd)) Hb3.out (Nat.le_trans (Nat.le_of_lt hsd) Hb2.out.size)
  obtain ⟨W5, hW5⟩ : ∃ W5, W5 = (w3.setCell ⟨w.heap.size, 3, none⟩ (.pointer (some ⟨bd', 0, none⟩))).setCell ⟨w.heap.size, 4, none⟩ (.pointer (some ⟨br', 0, none⟩)) := ⟨_, rfl⟩
  have o5 : ∀ k, k ≠ w.heap.size → W5.heap[k]? = w3.heap[k]? := fun k hk => by rw [hW5, S.setCell_other _ _ _ _ _ hk, S.setCell_other _ _ _ _ _ hk]
  have z5 : W5.heap.size = w3.heap.size := by rw [hW5, S.setCell_size, S.setCell_size]
  have hB5 : Below w.heap.size w W5 := ⟨by rw [hW5]; exact hB3.os, by rw [hW5]; exact hB3.tape, by rw [hW5]; exact hB3.output, by rw [z5]; exact hB3.size, fun k hk => (o5 k (by omega)).trans (hB3.block k hk)⟩
  have hM5 := H0.out.below hB5
  have c6 := hM5.c6
  have k5 := M.copy_any bm W5 hM5.ps.m ht
  have hN5 := HN5.out
  rw [← hW5] at hN5
  rw [← hW5]
  have HF := S.hid (And.intro hB5 (And.intro o5 (And.intro z5 hN5)))
  clear hB3 hW5 o5 z5 hB5 hM5 hN5 HN5
  go_wp2_with fail
  refine k5.mono ?_
  rintro e w6 ⟨b', rfl, hm6, b6⟩
  have hN6 : w6.heap[w.heap.size]? = some (.cells [.int .u16 v.pc, .int .i64 v.st, .int .i64 v.fa, .pointer (some ⟨bd', 0, none⟩), .pointer (some ⟨br', 0, none⟩), .slice kp v.code.length kc, .pointer (some ⟨bm, 0, none⟩)].toArray 128 (0, 0)) := (b6.block _ (S.lt_of HF.out.2.2.2)).trans HF.out.2.2.2
  have x6 := S.cell_of w6 _ 6 _ _ _ hN6 rfl
  have f6 := S.frozen_of w6 _ 6 _ _ hN6
  have hfin := copy_mv w w3 W5 w6 g bd br bm bd' br' b' kp kc F v H0.out HF.out.1 HF.out.2.1 HF.out.2.2.1 hN6 HX.out.1 HX.out.2.1 (Nat.lt_of_lt_of_le hsd (Nat.le_trans Hb2.out.size HX.out.2.2.1)) (Nat.lt_of_lt_of_le hsd (Nat.le_trans Hb2.out.size HX.out.2.2.2.1)) HX.out.2.2.2.2 hm6 b6
  have HG := S.hid hfin
  clear hfin hm6 b6 k5 c6 hN6
  go_wp2
  go_ret
  exact ⟨w.heap.size, bd', br', b', _, rfl, HG.out⟩
end Go.Proofs.YteldjmecomngeaaGreat.V
/-! Memory; the law's same. -/
namespace Go.Proofs.YteldjmecomngeaaGreat.V
open Go.RowKit
open Go.Proofs
set_option linter.unusedVariables false
set_option linter.unusedSimpArgs false
set_option maxHeartbeats 2000000
set_option maxRecDepth 100000
theorem memory_any (g bd br bm : Nat) (kv : Value) (F : Nat → Prop) (v : VS) (w : World) (h : MV w g bd br bm kv F v) : Calls Tryz.prog 18 #[.pointer (some ⟨g, 0, none⟩)] w fun e w' => e = .returned (.pointer (some ⟨bm, 0, none⟩)) ∧ w' = w := by
  have c6 := h.c6
  clear h
  go_enter Tryz.func18, Tryz.ntmps18
  go_wp2
  go_ret
  exact ⟨rfl, rfl⟩
theorem neq_cell (W : World) (k x : Int) : (binOp .neq 101 (.agg #[.int .i64 k, .int .u16 x]) (.agg #[.int .i64 k, .int .u16 x])).run Tryz.prog W = .ok (.bool false) W := by
  have hs : Tryz.prog.underlying 101 = some (.struct (Tryz.prog.fieldsOf 101)) := by kernel_rfl
  have hf : Tryz.prog.fieldsOf 101 = #[⟨ "Kind", 3, 0, false, "", "", 0⟩, ⟨ "Value", 23, 1, false, "", "", 8⟩] := by kernel_rfl
  have hp : Tryz.prog.stoodInHeld 101 = false := by kernel_rfl
  have k1 : Tryz.prog.cellsOf 23 = 1 := by kernel_rfl
  have k2 : Tryz.prog.cellsOf 3 = 1 := by kernel_rfl
  rw [run_neq_struct, run_equalIn_agg W 9999 _ _ _ hs hp, hf]
  simp [go_sem, Tryz.underlying23, Tryz.underlying3, k1, k2, Result.andThen]
theorem same_true (v : VS) (p1 p2 q1 q2 : Option Addr) (cp1 cp2 cq1 cq2 : Nat) (hd : v.D.length ≤ 256) (hr : v.R.length ≤ 128) (w : World) (h1 : S.Sl S.eU 1 w p1 v.D) (h2 : S.Sl S.eK 2 w p2 v.R) (h3 : S.Sl S.eU 1 w q1 v.D) (h4 : S.Sl S.eK 2 w q2 v.R) :
    Calls Tryz.prog 22 #[StV v (.slice p1 v.D.length cp1) (.slice p2 v.R.length cp2), StV v (.slice q1 v.D.length cq1) (.slice q2 v.R.length cq2)] w fun e w' => e = .returned (.bool true) ∧ Below w.heap.size w w' := by
  unfold StV
  obtain ⟨W, hW⟩ : ∃ W, W = ((w.alloc (.cells #[.int .u16 v.pc, .int .i64 v.st, .int .i64 v.fa, .slice p1 v.D.length cp1, .slice p2 v.R.length cp2] 46)).alloc (.cells #[.int .u16 v.pc, .int .i64 v.st, .int .i64 v.fa, .slice q1 v.D.length cq1, .slice q2 v.R.length cq2] 46)) := ⟨_, rfl⟩
  have hB : Below w.heap.size w W := by rw [hW]; exact ((Below.refl _ w).alloc (Nat.le_refl _) _).alloc (by simp) _
  have n1 : W.heap[w.heap.size]? = some (.cells #[.int .u16 v.pc, .int .i64 v.st, .int .i64 v.fa, .slice p1 v.D.length cp1, .slice p2 v.R.length cp2] 46 (0, 0)) := by rw [hW]; exact heap_alloc2_old w _ _
  have n2 : W.heap[w.heap.size + 1]? = some (.cells #[.int .u16 v.pc, .int .i64 v.st, .int .i64 v.fa, .slice q1 v.D.length cq1, .slice q2 v.R.length cq2] 46 (0, 0)) := by rw [hW]; exact heap_alloc2_new w _ _
  have HB := S.hid hB
  have H1 := S.hid (h1.below hB)
  have H2 := S.hid (h2.below hB)
  have H3 := S.hid (h3.below hB)
  have H4 := S.hid (h4.below hB)
  have a3 := fun q => (show (W.drewN q).cell? ⟨w.heap.size, 3, none⟩ = some (.slice p1 v.D.length cp1) from S.cell_of W _ 3 [.int .u16 v.pc, .int .i64 v.st, .int .i64 v.fa, .slice p1 v.D.length cp1, .slice p2 v.R.length cp2] _ _ n1 rfl)
  have a4 := fun q => (show (W.drewN q).cell? ⟨w.heap.size, 4, none⟩ = some (.slice p2 v.R.length cp2) from S.cell_of W _ 4 [.int .u16 v.pc, .int .i64 v.st, .int .i64 v.fa, .slice p1 v.D.length cp1, .slice p2 v.R.length cp2] _ _ n1 rfl)
  have b3 := fun q => (show (W.drewN q).cell? ⟨w.heap.size + 1, 3, none⟩ = some (.slice q1 v.D.length cq1) from S.cell_of W _ 3 [.int .u16 v.pc, .int .i64 v.st, .int .i64 v.fa, .slice q1 v.D.length cq1, .slice q2 v.R.length cq2] _ _ n2 rfl)
  have b4 := fun q => (show (W.drewN q).cell? ⟨w.heap.size + 1, 4, none⟩ = some (.slice q2 v.R.length cq2) from S.cell_of W _ 4 [.int .u16 v.pc, .int .i64 v.st, .int .i64 v.fa, .slice q1 v.D.length cq1, .slice q2 v.R.length cq2] _ _ n2 rfl)
  have aw0 := S.cell_of W _ 0 [.int .u16 v.pc, .int .i64 v.st, .int .i64 v.fa, .slice p1 v.D.length cp1, .slice p2 v.R.length cp2] _ _ n1 rfl
  have aw1 := S.cell_of W _ 1 [.int .u16 v.pc, .int .i64 v.st, .int .i64 v.fa, .slice p1 v.D.length cp1, .slice p2 v.R.length cp2] _ _ n1 rfl
  have aw2 := S.cell_of W _ 2 [.int .u16 v.pc, .int .i64 v.st, .int .i64 v.fa, .slice p1 v.D.length cp1, .slice p2 v.R.length cp2] _ _ n1 rfl
  have aw3 := S.cell_of W _ 3 [.int .u16 v.pc, .int .i64 v.st, .int .i64 v.fa, .slice p1 v.D.length cp1, .slice p2 v.R.length cp2] _ _ n1 rfl
  have aw4 := S.cell_of W _ 4 [.int .u16 v.pc, .int .i64 v.st, .int .i64 v.fa, .slice p1 v.D.length cp1, .slice p2 v.R.length cp2] _ _ n1 rfl
  have bw0 := S.cell_of W _ 0 [.int .u16 v.pc, .int .i64 v.st, .int .i64 v.fa, .slice q1 v.D.length cq1, .slice q2 v.R.length cq2] _ _ n2 rfl
  have bw1 := S.cell_of W _ 1 [.int .u16 v.pc, .int .i64 v.st, .int .i64 v.fa, .slice q1 v.D.length cq1, .slice q2 v.R.length cq2] _ _ n2 rfl
  have bw2 := S.cell_of W _ 2 [.int .u16 v.pc, .int .i64 v.st, .int .i64 v.fa, .slice q1 v.D.length cq1, .slice q2 v.R.length cq2] _ _ n2 rfl
  have bw3 := S.cell_of W _ 3 [.int .u16 v.pc, .int .i64 v.st, .int .i64 v.fa, .slice q1 v.D.length cq1, .slice q2 v.R.length cq2] _ _ n2 rfl
  have bw4 := S.cell_of W _ 4 [.int .u16 v.pc, .int .i64 v.st, .int .i64 v.fa, .slice q1 v.D.length cq1, .slice q2 v.R.length cq2] _ _ n2 rfl
  have ns := neq_cell
  have hW' := hW.symm
  clear h1 h2 h3 h4 hB n1 n2 hW
  go_enter Tryz.func22, Tryz.ntmps22
  go_wp2
  go_loopw [47] (fun i wr => ∃ k q : Nat, k ≤ v.D.length ∧ i = .int .i64 (k : Int) ∧ wr = W.drewN q) (fun i _ => v.D.length - (intOf i).toNat)
  case atStart => exact ⟨0, 0, by omega, rfl, rfl⟩
  case round =>
    obtain ⟨k, q, hk, rfl, rfl⟩ := hrel
    by_cases hlt : k < v.D.length
    · have i1 : (k : Int) < v.D.length := by omega
      obtain ⟨b, o, rfl, e1⟩ := H1.out.u k v.D[k] (List.getElem?_eq_getElem hlt)
      obtain ⟨b', o', rfl, f1⟩ := H3.out.u k v.D[k] (List.getElem?_eq_getElem hlt)
      generalize v.D[k] = t at *
      have g1 : ∀ q, (W.drewN q).cell? ⟨b, o + k, none⟩ = some (.int .u16 t) := fun q => e1
      have g4 : ∀ q, (W.drewN q).cell? ⟨b', o' + k, none⟩ = some (.int .u16 t) := fun q => f1
      have w1' : wrap64 ((k : Int) + 1) = ((k + 1 : Nat) : Int) := by simp [wrap64]; omega
      go_wp2_with fail
      go_quiet (fail)
      go_wp2
      go_roundw
      case rel =>
        first
          | exact ⟨k + 1, _, hlt, (by first | rfl | rw [w1']), rfl⟩
          | ((repeat apply Exists.intro); refine ⟨⟨k + 1, _, hlt, ?_, rfl⟩, rfl⟩; first | rfl | rw [w1'])
      case measure => exact msr2 _ _ _ k (by first | rfl | rw [w1']) rfl hlt
    · obtain rfl : k = v.D.length := by omega
      go_wp2
      go_loopw [65] (fun i wr => ∃ k q : Nat, k ≤ v.R.length ∧ i = .int .i64 (k : Int) ∧ wr = W.drewN q) (fun i _ => v.R.length - (intOf i).toNat)
      case atStart => exact ⟨0, q, by omega, rfl, rfl⟩
      case round =>
        obtain ⟨k, q, hk, rfl, rfl⟩ := hrel
        by_cases hlt : k < v.R.length
        · have i1 : (k : Int) < v.R.length := by omega
          obtain ⟨b, o, rfl, e1, e2⟩ := H2.out.k k v.R[k] (List.getElem?_eq_getElem hlt)
          obtain ⟨b', o', rfl, f1, f2⟩ := H4.out.k k v.R[k] (List.getElem?_eq_getElem hlt)
          generalize v.R[k] = t at *
          have g1 : ∀ q, (W.drewN q).cell? ⟨b, o + k * 2, none⟩ = some (.int .i64 t.1) := fun q => e1
          have g2 : ∀ q, (W.drewN q).cell? ⟨b, o + k * 2 + 1, none⟩ = some (.int .u16 t.2) := fun q => e2
          have g3 : ∀ q, (W.drewN q).cell? ⟨b', o' + k * 2, none⟩ = some (.int .i64 t.1) := fun q => f1
          have g4 : ∀ q, (W.drewN q).cell? ⟨b', o' + k * 2 + 1, none⟩ = some (.int .u16 t.2) := fun q => f2
          have w1' : wrap64 ((k : Int) + 1) = ((k + 1 : Nat) : Int) := by simp [wrap64]; omega
          go_wp2_with fail
          go_quiet (fail)
          go_wp2
          go_roundw
          case rel =>
            first
              | exact ⟨k + 1, _, hlt, (by first | rfl | rw [w1']), rfl⟩
              | ((repeat apply Exists.intro); refine ⟨⟨k + 1, _, hlt, ?_, rfl⟩, rfl⟩; first | rfl | rw [w1'])
          case measure => exact msr2 _ _ _ k (by first | rfl | rw [w1']) rfl hlt
        · obtain rfl : k = v.R.length := by omega
          go_wp2
          go_ret
          exact ⟨rfl, dnB HB.out _⟩
end Go.Proofs.YteldjmecomngeaaGreat.V
/-! As one: a frame's work is steps, one behind the other. -/
namespace Go.Proofs.YteldjmecomngeaaGreat.V
open Go.RowKit
open Go.Proofs
set_option linter.unusedVariables false
set_option linter.unusedSimpArgs false
set_option maxHeartbeats 2000000
set_option maxRecDepth 100000
/-- Where so many instructions lead, and what they cost. -/
def it : Nat → VS → Int → VS × Int
  | 0, u, s => (u, s)
  | i + 1, u, s => it i (doo (look u).op (look u).x (cyc s u)).2 (s + P.rc (look u).op)
/-- An instruction that is done at u behind s cycles. -/
def okI (u : VS) (s : Int) : Prop := u.st = 1 ∧ (look u).f = 0 ∧ (doo (look u).op (look u).x (cyc s u)).1 = 0
/-- How a frame's work ends at u behind s cycles, with what. -/
def endI (B : Int) (u : VS) (s : Int) (v : VS) : Prop :=
  (v = u ∧ (u.st ≠ 1 ∨ B ≤ s ∨ ((look u).f = 0 ∧ B - s < P.rc (look u).op))) ∨
  (u.st = 1 ∧ s < B ∧ (look u).f ≠ 0 ∧ v = fail (look u).f u) ∨
  (u.st = 1 ∧ s < B ∧ (look u).f = 0 ∧ P.rc (look u).op ≤ B - s ∧ (doo (look u).op (look u).x (cyc s u)).1 ≠ 0 ∧ v = fail (doo (look u).op (look u).x (cyc s u)).1 (cyc s u))
theorem wk_it (B : Int) : ∀ (k : Nat) (u : VS) (n s : Int), B - s ≤ (k : Int) → ∃ N : Nat, (wk k B u n s).steps = n + N ∧ (wk k B u n s).spent = (it N u s).2 ∧ (∀ i, i < N → okI (it i u s).1 (it i u s).2) ∧ (∀ i, i + 1 < N → (look (it i u s).1).op ≠ 10) ∧
    ((0 < N ∧ (look (it (N - 1) u s).1).op = 10 ∧ (wk k B u n s).v = (it N u s).1) ∨ (endI B (it N u s).1 (it N u s).2 (wk k B u n s).v ∧ ∀ i, i < N → (look (it i u s).1).op ≠ 10))
  | 0, u, n, s, h => ⟨0, by simp [wk], rfl, fun i hi => by omega, fun i hi => by omega, .inr ⟨.inl ⟨rfl, .inr (.inl (by show B ≤ s; omega))⟩, fun i hi => by omega⟩⟩
  | k + 1, u, n, s, h => by
    have hr := rc_r (look u).op
    unfold wk
    by_cases q : u.st = 1 ∧ s < B
    case neg =>
      rw [if_neg q]
      exact ⟨0, by simp, rfl, fun i hi => by omega, fun i hi => by omega, .inr ⟨.inl ⟨rfl, by show u.st ≠ 1 ∨ B ≤ s ∨ _; by_cases a : u.st = 1; exact .inr (.inl (by have : ¬ s < B := fun c => q ⟨a, c⟩; omega)); exact .inl a⟩, fun i hi => by omega⟩⟩
    rw [if_pos q]
    by_cases q3 : (look u).f = 0
    case neg =>
      rw [if_neg q3]
      exact ⟨0, by simp, rfl, fun i hi => by omega, fun i hi => by omega, .inr ⟨.inr (.inl ⟨q.1, q.2, q3, rfl⟩), fun i hi => by omega⟩⟩
    rw [if_pos q3]
    by_cases q4 : B - s < P.rc (look u).op
    · rw [if_pos q4]
      exact ⟨0, by simp, rfl, fun i hi => by omega, fun i hi => by omega, .inr ⟨.inl ⟨rfl, .inr (.inr ⟨q3, q4⟩)⟩, fun i hi => by omega⟩⟩
    rw [if_neg q4]
    by_cases q5 : (doo (look u).op (look u).x (cyc s u)).1 = 0
    case neg =>
      rw [if_neg q5]
      exact ⟨0, by simp, rfl, fun i hi => by omega, fun i hi => by omega, .inr ⟨.inr (.inr ⟨q.1, q.2, q3, by show P.rc (look u).op ≤ B - s; omega, q5, rfl⟩), fun i hi => by omega⟩⟩
    rw [if_pos q5]
    by_cases q6 : (look u).op = 10
    · rw [if_pos q6]
      refine ⟨1, by simp, rfl, fun i hi => ?_, fun i hi => by omega, .inl ⟨by omega, q6, rfl⟩⟩
      obtain rfl : i = 0 := by omega
      exact ⟨q.1, q3, q5⟩
    rw [if_neg q6]
    obtain ⟨N, h1, h2, h3, h4, h5⟩ := wk_it B k (doo (look u).op (look u).x (cyc s u)).2 (n + 1) (s + P.rc (look u).op) (by omega)
    refine ⟨N + 1, by rw [h1]; omega, h2, fun i hi => ?_, fun i hi => ?_, ?_⟩
    · cases i with
      | zero => exact ⟨q.1, q3, q5⟩
      | succ i => exact h3 i (by omega)
    · cases i with
      | zero => exact q6
      | succ i => exact h4 i (by omega)
    · rcases h5 with ⟨a, b, c⟩ | ⟨a, b⟩
      · refine .inl ⟨by omega, ?_, c⟩
        obtain ⟨M, rfl⟩ : ∃ M, N = M + 1 := ⟨N - 1, by omega⟩
        exact b
      · refine .inr ⟨a, fun i hi => ?_⟩
        cases i with
        | zero => exact q6
        | succ i => exact b i (by omega)
/-! ### The cycle does not matter -/
theorem turn_cyc (s : Int) (v : VS) : (turn (cyc s v)).f = (turn v).f ∧ (turn (cyc s v)).b = (turn v).b ∧ (turn (cyc s v)).v = cyc s (turn v).v := by
  have e : (cyc s v).R = v.R := rfl
  unfold turn
  rw [e]
  cases v.R.reverse with
  | nil => exact ⟨rfl, rfl, rfl⟩
  | cons a t =>
    obtain ⟨k, i⟩ := a
    simp only
    by_cases q1 : k = 3
    · cases t with
      | nil => simp [q1]
      | cons b t2 =>
        obtain ⟨k2, l⟩ := b
        by_cases q2 : k2 = 2
        · by_cases q3 : (i + 1) % 65536 = l
          · simp [q1, q2, q3, cyc]
          · simp [q1, q2, q3, cyc]
        · simp [q1, q2]
    · simp [q1]
theorem look_cyc (s : Int) (v : VS) : look (cyc s v) = look v := rfl
theorem fl_cyc (op x be : Int) (s : Int) (v : VS) : (dn op x be (cyc s v)).f = (dn op x be v).f := by
  unfold dn
  split
  · by_cases q : 128 < v.R.length + 1
    · rw [if_pos (show 128 < (cyc s v).R.length + 1 from q), if_pos q]
    · rw [if_neg (show ¬ 128 < (cyc s v).R.length + 1 from q), if_neg q]
  · by_cases q : 256 < v.D.length + 1
    · rw [if_pos (show 256 < (cyc s v).D.length + 1 from q), if_pos q]
    · rw [if_neg (show ¬ 256 < (cyc s v).D.length + 1 from q), if_neg q]
  · by_cases q : 256 < v.D.length + 1
    · rw [if_pos (show 256 < (cyc s v).D.length + 1 from q), if_pos q]
    · rw [if_neg (show ¬ 256 < (cyc s v).D.length + 1 from q), if_neg q]
  · rfl
  · have e : (cyc s v).D = v.D := rfl
    rw [e]
    cases v.D.reverse <;> rfl
  · obtain ⟨t1, t2, _⟩ := turn_cyc s v
    rw [t2]
    cases (turn v).b
    · exact t1
    · rfl
  · have e : (cyc s v).R = v.R := rfl
    rw [e]
    cases v.R.reverse with
    | nil => rfl
    | cons a t =>
      obtain ⟨k, i⟩ := a
      simp only
      by_cases q : k = 1
      · simp [q]
      · simp [q]
  · rfl
  · rfl
  · rfl
theorem doo_cyc (op : Nat) (x s : Int) (v : VS) : (doo op x (cyc s v)).1 = (doo op x v).1 := fl_cyc _ _ _ _ _
/-- The twin's step is the frame's instruction. -/
theorem step_it (u : VS) (s : Int) (h : okI u s) : step (cyc s u) = ((look u).op == 10, (doo (look u).op (look u).x (cyc s u)).2) := by
  obtain ⟨h1, h2, h3⟩ := h
  unfold step
  rw [if_pos (show (cyc s u).st = 1 from h1), look_cyc, if_pos h2, if_pos h3]
end Go.Proofs.YteldjmecomngeaaGreat.V
/-! Restore's small parts. -/
namespace Go.Proofs.YteldjmecomngeaaGreat.V
open Go.RowKit
open Go.Proofs
set_option linter.unusedVariables false
set_option linter.unusedSimpArgs false
set_option maxHeartbeats 2000000
set_option maxRecDepth 100000
/-- A status with its fault, as a machine can have them. -/
def okS (st fa : Int) : Prop := (st = 1 ∧ fa = 0) ∨ (st = 2 ∧ fa = 0) ∨ (st = 3 ∧ 1 ≤ fa ∧ fa ≤ 7)
theorem statusMayBe_yes (st fa : Int) (h : okS st fa) (w : World) : Calls Tryz.prog 92 #[.int .i64 st, .int .i64 fa] w fun e w' => e = .returned (.bool true) ∧ w' = w := by
  rcases h with ⟨rfl, rfl⟩ | ⟨rfl, rfl⟩ | ⟨rfl, h1, h2⟩
  · go_enter Tryz.func92, Tryz.ntmps92
    go_wp2
    go_ret
    exact ⟨rfl, rfl⟩
  · go_enter Tryz.func92, Tryz.ntmps92
    go_wp2
    go_ret
    exact ⟨rfl, rfl⟩
  · have d1 : decide (1 ≤ fa) = true := decide_eq_true h1
    have d2 : decide (fa ≤ 7) = true := decide_eq_true h2
    go_enter Tryz.func92, Tryz.ntmps92
    go_wp2
    go_ret
    exact ⟨rfl, rfl⟩
/-- Banks of the same numbers. -/
theorem sameNumbers_yes (p q : Option Addr) (cp cq : Nat) (xs bs : List (Int × List UInt8)) (hl : xs.length ≤ 1000) (h : xs.map Prod.fst = bs.map Prod.fst) (w : World) (h1 : M.BnS w p xs) (h2 : M.BnS w q bs) :
    Calls Tryz.prog 56 #[.slice p xs.length cp, .slice q bs.length cq] w fun e w' => e = .returned (.bool true) ∧ ∃ n, w' = w.drewN n := by
  have hlen : bs.length = xs.length := by have := congrArg List.length h; simpa using this.symm
  rw [hlen]
  go_enter Tryz.func56, Tryz.ntmps56
  go_wp2
  go_loopw [13] (fun i wr => ∃ k n : Nat, k ≤ xs.length ∧ i = .int .i64 (k : Int) ∧ wr = w.drewN n) (fun i _ => xs.length - (intOf i).toNat)
  case atStart => exact ⟨0, 0, by omega, rfl, rfl⟩
  case round =>
    obtain ⟨k, n, hk, rfl, rfl⟩ := hrel
    by_cases hlt : k < xs.length
    · have i1 : (k : Int) < xs.length := by omega
      have hlt2 : k < bs.length := by omega
      have he : (xs[k]).1 = (bs[k]).1 := by
        have := congrArg (fun l => l[k]?) h
        simpa [List.getElem?_map, List.getElem?_eq_getElem hlt, List.getElem?_eq_getElem hlt2] using this
      obtain ⟨b, o, dv, rfl, e1, _, _, _⟩ := h1 k xs[k] (List.getElem?_eq_getElem hlt)
      obtain ⟨b', o', dv', rfl, f1, _, _, _⟩ := h2 k bs[k] (List.getElem?_eq_getElem hlt2)
      rw [← he] at f1
      generalize (xs[k]).1 = t at *
      have g1 : ∀ q, (w.drewN q).cell? ⟨b, o + k * 2, none⟩ = some (.int .i64 t) := fun q => e1
      have g4 : ∀ q, (w.drewN q).cell? ⟨b', o' + k * 2, none⟩ = some (.int .i64 t) := fun q => f1
      have w1' : wrap64 ((k : Int) + 1) = ((k + 1 : Nat) : Int) := by simp [wrap64]; omega
      clear h1 h2 h he
      go_wp2_with fail
      go_quiet (fail)
      go_wp2
      go_roundw
      case rel =>
        first
          | exact ⟨k + 1, _, hlt, (by first | rfl | rw [w1']), rfl⟩
          | ((repeat apply Exists.intro); refine ⟨⟨k + 1, _, hlt, ?_, rfl⟩, rfl⟩; first | rfl | rw [w1'])
      case measure => exact msr2 _ _ _ k (by first | rfl | rw [w1']) rfl hlt
    · obtain rfl : k = xs.length := by omega
      go_wp2
      go_ret
      exact ⟨rfl, _, rfl⟩
end Go.Proofs.YteldjmecomngeaaGreat.V
/-! VmExact: what the loop holds. -/
namespace Go.Proofs.YteldjmecomngeaaGreat.V
open Go.RowKit
open Go.Proofs
set_option linter.unusedVariables false
set_option linter.unusedSimpArgs false
set_option maxHeartbeats 40000000
set_option maxRecDepth 100000
/-- Numbers that a slice tells. -/
def Is (W : World) (p : Option Addr) (zs : List Int) : Prop := ∀ (i : Nat) (a : Int), zs[i]? = some a → ∃ b o, p = some ⟨b, o, none⟩ ∧ W.cell? ⟨b, o + i, none⟩ = some (.int .i64 a)
theorem Is.below {W W' : World} {p : Option Addr} {zs : List Int} (h : Is W p zs) {n : Nat} (hn : n = W.heap.size) (b : Below n W W') : Is W' p zs := by
  subst hn
  intro i a hi
  obtain ⟨x, o, e, k⟩ := h i a hi
  exact ⟨x, o, e, T.below_cell b _ _ k⟩
structure XI (w wr : World) (g bd br bm : Nat) (ku : Value) (F : Nat → Prop) (L0 : Nat) (u : VS) (over : Bool) (row : Array Value) : Prop where
  mv : MV wr g bd br bm ku F u
  fr : Fresh w.heap.size g bd br bm ku F
  bel : Below w.heap.size w wr
  l0 : w.heap.size ≤ L0
  lg : L0 ≠ g
  ld : L0 ≠ bd
  lr : L0 ≠ br
  lf : ¬ F L0
  lk : ∀ k, ku.ownBlock = some k → k ≠ L0
  blk : wr.heap[L0]? = some (.cells row 39 (0, 0))
  st : St u
  sz : row.size = 7
  ov : over = true → u.st ≠ 1 ∧ ∃ p c a2 a3 a4 a6, row = #[.int .i64 u.st, .int .i64 u.fa, a2, a3, a4, .slice p u.m.scr.length c, a6] ∧ M.Row wr w.heap.size (.slice p u.m.scr.length c) u.m.scr ∧ ∀ k, (Value.slice p u.m.scr.length c).ownBlock = some k → ¬ F k
theorem row_is5 {W : World} {B : Nat} {v : Value} {l : List UInt8} (h : M.Row W B v l) (k : Nat) (e : v.ownBlock = some k) : is5 W k := by
  obtain ⟨cur, q⟩ := M.own_block h k e
  exact ⟨cur, _, q⟩
theorem row_apart {W : World} {B : Nat} {v : Value} {l : List UInt8} {g bd br bm : Nat} {ku : Value} {F : Nat → Prop} {u : VS} (h : M.Row W B v l) (m : MV W g bd br bm ku F u) (k : Nat) (e : v.ownBlock = some k) : k ≠ g ∧ k ≠ bd ∧ k ≠ br := by
  obtain ⟨c, x, q⟩ := row_is5 h k e
  refine ⟨?_, ?_, ?_⟩
  · rintro rfl; rw [m.blk] at q; simp at q
  · rintro rfl; rw [m.ps.d.1] at q; simp at q
  · rintro rfl; rw [m.ps.r.1] at q; simp at q
/-- A frame's row in the world behind it. -/
theorem XI.kept {w wr w1 : World} {g bd br bm : Nat} {ku : Value} {F : Nat → Prop} {L0 : Nat} {u u' : VS} {over : Bool} {row : Array Value} (I : XI w wr g bd br bm ku F L0 u over row) (h : VD wr w1 g bd br bm ku F u') {v : Value} {l : List UInt8} {B : Nat} (hr : M.Row wr B v l) (hf : ∀ k, v.ownBlock = some k → ¬ F k) : M.Row w1 B v l :=
  S.own_kept hr fun k e hk => h.t.block k hk (by
    obtain ⟨a, b, c⟩ := row_apart hr I.mv k e
    rintro (q | q | q | q)
    · exact a q
    · exact b q
    · exact c q
    · exact hf k e q)
theorem XI.blk1 {w wr w1 : World} {g bd br bm : Nat} {ku : Value} {F : Nat → Prop} {L0 : Nat} {u u' : VS} {over : Bool} {row : Array Value} (I : XI w wr g bd br bm ku F L0 u over row) (h : VD wr w1 g bd br bm ku F u') : w1.heap[L0]? = some (.cells row 39 (0, 0)) :=
  (h.t.block L0 (S.lt_of I.blk) (by
    rintro (q | q | q | q)
    · exact I.lg q
    · exact I.ld q
    · exact I.lr q
    · exact I.lf q)).trans I.blk
theorem XI.bel1 {w wr w1 : World} {g bd br bm : Nat} {ku : Value} {F : Nat → Prop} {L0 : Nat} {u u' : VS} {over : Bool} {row : Array Value} (I : XI w wr g bd br bm ku F L0 u over row) (h : VD wr w1 g bd br bm ku F u') : Below w.heap.size w w1 :=
  I.bel.trans (tcB h I.fr I.bel.size)
/-- The next round. -/
theorem XI.next {w wr w1 w6 : World} {g bd br bm : Nat} {ku : Value} {F : Nat → Prop} {L0 : Nat} {u : VS} {over : Bool} {row : Array Value} (I : XI w wr g bd br bm ku F L0 u over row) (r : WK) (B : Int) (h : VD wr w1 g bd br bm ku F r.v) (hs : St r.v) (p1 p2 : Option Addr) (c1 c2 : Nat)
    (hr : M.Row w1 wr.heap.size (.slice p1 r.v.m.scr.length c1) r.v.m.scr) (hb : Below w1.heap.size w1 w6) :
    XI w (w6.setRow L0 #[.int .i64 r.v.st, .int .i64 r.v.fa, .int .i64 r.steps, .int .i64 r.spent, .int .i64 (B - r.spent), .slice p1 r.v.m.scr.length c1, .slice p2 r.v.m.tones.length c2]) g bd br bm ku (fun k => M.gr F wr w1 k ∧ ¬ is5 w1 k) L0 r.v (r.v.st != 1)
      #[.int .i64 r.v.st, .int .i64 r.v.fa, .int .i64 r.steps, .int .i64 r.spent, .int .i64 (B - r.spent), .slice p1 r.v.m.scr.length c1, .slice p2 r.v.m.tones.length c2] := by
  have hL : L0 < wr.heap.size := S.lt_of I.blk
  have hs1 := h.t.size
  have nf : ¬ (M.gr F wr w1 L0 ∧ ¬ is5 w1 L0) := by rintro ⟨q | ⟨q, _⟩, _⟩; exact I.lf q; omega
  have hb1 := I.blk1 h
  have hb6 := (hb.block L0 (by omega)).trans hb1
  have hr6 := hr.below hb
  have hne : ∀ k, (Value.slice p1 r.v.m.scr.length c1).ownBlock = some k → k ≠ L0 := fun k e => by have := own_lt hr k e; omega
  refine ⟨((h.s.no5).below hb).setRow L0 _ I.lg I.ld I.lr nf I.lk, ⟨I.fr.g, I.fr.d, I.fr.r, I.fr.k, ?_⟩, ?_, I.l0, I.lg, I.ld, I.lr, nf, I.lk, setRow_heap _ _ _ _ _ _ hb6, hs, rfl, fun ho => ⟨by simpa using ho, p1, c1, _, _, _, _, rfl, ?_, ?_⟩⟩
  · rintro k ⟨q | ⟨q, _⟩, _⟩
    · exact I.fr.f k q
    · have := I.bel.size; omega
  · exact P.Below.setRow (trB (I.bel1 h) hb (I.bel1 h).size) L0 I.l0 _
  · exact S.own_mono (S.own_kept hr6 fun k e _ => setRow_other w6 L0 k _ (hne k e)) I.bel.size
  · rintro k e ⟨_, q⟩
    exact q (row_is5 hr k e)
end Go.Proofs.YteldjmecomngeaaGreat.V
/-! As one: two machines in one world. -/
namespace Go.Proofs.YteldjmecomngeaaGreat.V
open Go.RowKit
open Go.Proofs
set_option linter.unusedVariables false
set_option linter.unusedSimpArgs false
set_option maxHeartbeats 2000000
set_option maxRecDepth 100000
theorem it_succ : ∀ (i : Nat) (u : VS) (s : Int), it (i + 1) u s = ((doo (look (it i u s).1).op (look (it i u s).1).x (cyc (it i u s).2 (it i u s).1)).2, (it i u s).2 + P.rc (look (it i u s).1).op)
  | 0, u, s => rfl
  | i + 1, u, s => by
    show it (i + 1) _ _ = _
    rw [it_succ i]
    rfl
theorem it_r : ∀ (i : Nat) (u : VS) (s : Int), s + i ≤ (it i u s).2 ∧ (it i u s).2 ≤ s + 4 * i
  | 0, u, s => by show s + (0 : Nat) ≤ s ∧ s ≤ s + 4 * (0 : Nat); omega
  | i + 1, u, s => by
    have h := it_r i u s
    have hr := rc_r (look (it i u s).1).op
    rw [it_succ]
    show s + (i + 1 : Nat) ≤ (it i u s).2 + P.rc (look (it i u s).1).op ∧ (it i u s).2 + P.rc (look (it i u s).1).op ≤ s + 4 * (i + 1 : Nat)
    omega
theorem it_tones : ∀ (i : Nat) (u : VS) (s : Int), (it i u s).1.m.tones.length ≤ u.m.tones.length + 3 * i
  | 0, u, s => by show u.m.tones.length ≤ u.m.tones.length + 3 * 0; omega
  | i + 1, u, s => by
    have h := it_tones i u s
    have hd := doo_tones (look (it i u s).1).op (look (it i u s).1).x (cyc (it i u s).2 (it i u s).1)
    have hc : (cyc (it i u s).2 (it i u s).1).m.tones.length = (it i u s).1.m.tones.length := rfl
    rw [it_succ]
    show (doo (look (it i u s).1).op (look (it i u s).1).x (cyc (it i u s).2 (it i u s).1)).2.m.tones.length ≤ _
    omega
theorem look_doo (u : VS) (s : Int) : look (cyc s u) = look u := rfl
/-- The twin's last step. -/
theorem step_no (u : VS) (h1 : u.st = 1) (h2 : (look u).f ≠ 0) : step u = (false, fail (look u).f u) := by
  unfold step
  rw [if_pos h1, if_neg h2]
theorem step_bad (u : VS) (s : Int) (h1 : u.st = 1) (h2 : (look u).f = 0) (h3 : (doo (look u).op (look u).x (cyc s u)).1 ≠ 0) : step u = (false, fail (doo (look u).op (look u).x (cyc s u)).1 u) := by
  rw [doo_cyc] at h3 ⊢
  unfold step
  rw [if_pos h1, if_pos h2, if_neg h3]
theorem fail_cyc (f s : Int) (u : VS) : fail f (cyc s u) = cyc s (fail f u) := rfl
theorem cyc_self (u : VS) : u = cyc u.m.cyc u := rfl
theorem bg_cyc (s p : Int) (u : VS) : ({ cyc s u with m := M.bg (cyc s u).m p } : VS) = { u with m := M.bg u.m p } := rfl
/-! ### Two machines -/
theorem MV.kept {W W' : World} {g bd br bm : Nat} {kv : Value} {F : Nat → Prop} {v : VS} (h : MV W g bd br bm kv F v) (hs : W.heap.size ≤ W'.heap.size) (k : ∀ i, i < W.heap.size → (TV g bd br F i ∨ kv.ownBlock = some i) → W'.heap[i]? = W.heap[i]?) : MV W' g bd br bm kv F v :=
  { h with
    blk := (k _ h.lt (.inl (.inl rfl))).trans h.blk
    ps := ⟨h.ps.d.kept (k _ h.lt_d (.inl (.inr (.inl rfl)))), h.ps.r.kept (k _ h.lt_r (.inl (.inr (.inr (.inl rfl))))), h.ps.m.kept fun i hi f => k i hi (.inl (.inr (.inr (.inr f)))), h.ps.dr, h.ps.fd, h.ps.fr⟩
    code := sl_kept h.code fun i e hi => k i hi (.inr e)
    ck := fun i e => Nat.lt_of_lt_of_le (h.ck i e) hs
    fb := fun i e => Nat.lt_of_lt_of_le (h.fb i e) hs }
theorem MV.tv_lt {W : World} {g bd br bm : Nat} {kv : Value} {F : Nat → Prop} {v : VS} (h : MV W g bd br bm kv F v) (k : Nat) (e : TV g bd br F k) : k < W.heap.size := by
  rcases e with rfl | rfl | rfl | e
  · exact h.lt
  · exact h.lt_d
  · exact h.lt_r
  · exact h.fb k e
theorem MV.code_no {W : World} {g bd br bm : Nat} {kv : Value} {F : Nat → Prop} {v : VS} (h : MV W g bd br bm kv F v) (k : Nat) (e : kv.ownBlock = some k) : ¬ TV g bd br F k := by
  obtain ⟨a, b, c, d⟩ := h.cb k e
  rintro (q | q | q | q)
  · exact a q
  · exact b q
  · exact c q
  · exact d q
/-- A call of the one leaves the other as it was. -/
theorem MV.beside {W W' : World} {g bd br bm g' bd' br' bm' : Nat} {kv : Value} {F F' : Nat → Prop} {v u u' : VS} (h : MV W g bd br bm kv F v) (k : VD W W' g' bd' br' bm' kv F' u') (a : MV W g' bd' br' bm' kv F' u) (ap : ∀ i, TV g bd br F i → ¬ TV g' bd' br' F' i) : MV W' g bd br bm kv F v :=
  h.kept k.t.size fun i hi e => k.t.block i hi (by
    rcases e with e | e
    · exact ap i e
    · exact a.code_no i e)
theorem tv_gr {W W' : World} {g bd br : Nat} {F : Nat → Prop} {k : Nat} (h : TV g bd br (M.gr F W W') k) : TV g bd br F k ∨ W.heap.size ≤ k := by
  rcases h with h | h | h | h | ⟨h, _⟩
  · exact .inl (.inl h)
  · exact .inl (.inr (.inl h))
  · exact .inl (.inr (.inr (.inl h)))
  · exact .inl (.inr (.inr (.inr h)))
  · exact .inr h
structure TW (n : Nat) (W : World) (g bd br bm g' bd' br' bm' : Nat) (kv : Value) (F F' : Nat → Prop) (u u' : VS) : Prop where
  a : MV W g bd br bm kv F u
  b : MV W g' bd' br' bm' kv F' u'
  ap : ∀ k, TV g bd br F k → ¬ TV g' bd' br' F' k
  fa : Fresh n g bd br bm kv F
  fb : Fresh n g' bd' br' bm' kv F'
  nw : n ≤ W.heap.size
section
variable {n : Nat} {W W' : World} {g bd br bm g' bd' br' bm' : Nat} {kv : Value} {F F' : Nat → Prop} {u u' v : VS}
theorem TW.below (h : TW n W g bd br bm g' bd' br' bm' kv F F' u u') (k : Below W.heap.size W W') : TW n W' g bd br bm g' bd' br' bm' kv F F' u u' :=
  ⟨h.a.below k, h.b.below k, h.ap, h.fa, h.fb, Nat.le_trans h.nw k.size⟩
theorem TW.left (h : TW n W g bd br bm g' bd' br' bm' kv F F' u u') (k : VD W W' g bd br bm kv F v) : TW n W' g bd br bm g' bd' br' bm' kv (M.gr F W W') F' v u' :=
  ⟨k.s, h.b.beside k h.a (fun i e f => h.ap i f e), fun i e f => by
    rcases tv_gr e with q | q
    · exact h.ap i q f
    · have := h.b.tv_lt i f; omega,
   ⟨h.fa.g, h.fa.d, h.fa.r, h.fa.k, by rintro i (q | ⟨q, _⟩); exact h.fa.f i q; have := h.nw; omega⟩, h.fb, Nat.le_trans h.nw k.t.size⟩
theorem TW.right (h : TW n W g bd br bm g' bd' br' bm' kv F F' u u') (k : VD W W' g' bd' br' bm' kv F' v) : TW n W' g bd br bm g' bd' br' bm' kv F (M.gr F' W W') u v :=
  ⟨h.a.beside k h.b h.ap, k.s, fun i f e => by
    rcases tv_gr e with q | q
    · exact h.ap i f q
    · have := h.a.tv_lt i f; omega,
   h.fa, ⟨h.fb.g, h.fb.d, h.fb.r, h.fb.k, by rintro i (q | ⟨q, _⟩); exact h.fb.f i q; have := h.nw; omega⟩, Nat.le_trans h.nw k.t.size⟩
end
/-- What stands while the twin goes on: the blocks from lo to hi stay. -/
structure KI (w wo wc : World) (lo : Nat) (g bd br bm g' bd' br' bm' : Nat) (kv : Value) (F G : Nat → Prop) (u x : VS) : Prop where
  tw : TW w.heap.size wc g bd br bm g' bd' br' bm' kv F G u x
  nt : ∀ k, lo ≤ k → k < wo.heap.size → ¬ TV g' bd' br' G k
  kp : ∀ k, lo ≤ k → k < wo.heap.size → wc.heap[k]? = wo.heap[k]?
  sz : wo.heap.size ≤ wc.heap.size
  bl : Below w.heap.size w wc
section
variable {w wo wc w2 : World} {lo g bd br bm g' bd' br' bm' : Nat} {kv : Value} {F G : Nat → Prop} {u x y : VS}
theorem KI.below (h : KI w wo wc lo g bd br bm g' bd' br' bm' kv F G u x) (k : Below wc.heap.size wc w2) : KI w wo w2 lo g bd br bm g' bd' br' bm' kv F G u x :=
  ⟨h.tw.below k, h.nt, fun i a b => (k.block i (Nat.lt_of_lt_of_le b h.sz)).trans (h.kp i a b), Nat.le_trans h.sz k.size, trB h.bl k h.tw.nw⟩
theorem KI.right (h : KI w wo wc lo g bd br bm g' bd' br' bm' kv F G u x) (k : VD wc w2 g' bd' br' bm' kv G y) : KI w wo w2 lo g bd br bm g' bd' br' bm' kv F (M.gr G wc w2) u y :=
  ⟨h.tw.right k, fun i a b e => by
      rcases tv_gr e with q | q
      · exact h.nt i a b q
      · have := h.sz; omega,
    fun i a b => (k.t.block i (Nat.lt_of_lt_of_le b h.sz) (h.nt i a b)).trans (h.kp i a b), Nat.le_trans h.sz k.t.size, h.bl.trans (tcB k h.tw.fb h.tw.nw)⟩
theorem KI.row (h : KI w wo wc lo g bd br bm g' bd' br' bm' kv F G u x) {e : TypeId} {size : Nat} {v : Value} {n : Nat} {xs : List Value} (hr : wo.ownsRow lo e size v n xs) : wc.ownsRow lo e size v n xs :=
  S.own_kept hr fun k e hk => h.kp k (own_lt hr k e).1 hk
/-- The frame is behind us, its answer lies from lo on. -/
theorem KI.first {wr w1 : World} {F0 : Nat → Prop} {u0 : VS} (h : TW w.heap.size wr g bd br bm g' bd' br' bm' kv F0 G u0 x) (hB : Below w.heap.size w wr) (k : VD wr w1 g bd br bm kv F0 u) (b : Below w1.heap.size w1 wo) : KI w wo wo wr.heap.size g bd br bm g' bd' br' bm' kv (M.gr F0 wr w1) G u x :=
  ⟨(h.left k).below b, fun i a _ e => by have := h.b.tv_lt i e; omega, fun _ _ _ => rfl, Nat.le_refl _, trB (hB.trans (tcB k h.fa h.nw)) b (Nat.le_trans h.nw k.t.size)⟩
end
end Go.Proofs.YteldjmecomngeaaGreat.V
/-! awake. -/
namespace Go.Proofs.YteldjmecomngeaaGreat.M
open Go.RowKit
open Go.Proofs
set_option linter.unusedVariables false
set_option linter.unusedSimpArgs false
theorem Done.below {w w' : World} {B : Nat} {b : Nat} {m : MS} (h : Done w w' (fun k => B ≤ k) b m) (hB : B ≤ w.heap.size) : HasM w' (fun k => B ≤ k) b m ∧ Below B w w' :=
  ⟨h.1.mono fun i hi g => by rcases g with g | ⟨g, _⟩ <;> omega, h.2.below hB fun i f => f⟩
set_option maxHeartbeats 2000000
set_option maxRecDepth 100000
end Go.Proofs.YteldjmecomngeaaGreat.M
/-! own, ownBanks: banks in new memory, a mark behind each. -/
namespace Go.Proofs.YteldjmecomngeaaGreat.M
open Go.RowKit
open Go.Proofs
set_option linter.unusedVariables false
set_option linter.unusedSimpArgs false
theorem info37 : (Tryz.prog.info? 81).map (fun i => (i.zero, i.size, i.bytes)) = some (some (.agg #[.int .i64 0, .slice none 0 0]), 2, 32) := by kernel_rfl
def bc (t : Int × List UInt8) (g : Nat × Nat) : List Value := [.int .i64 t.1, .slice (some ⟨g.1, 0, none⟩) t.2.length g.2]
def bcs : List (Int × List UInt8) → List (Nat × Nat) → List Value
  | t :: bs, g :: gs => bc t g ++ bcs bs gs
  | _, _ => []
theorem bcs_len : ∀ (bs : List (Int × List UInt8)) (gs : List (Nat × Nat)), gs.length = bs.length → (bcs bs gs).length = bs.length * 2
  | [], [], _ => rfl
  | t :: bs, g :: gs, h => by simp [bcs, bc, bcs_len bs gs (by simpa using h)]; omega
theorem bcs_snoc : ∀ (bs : List (Int × List UInt8)) (gs : List (Nat × Nat)) (t : Int × List UInt8) (g : Nat × Nat), gs.length = bs.length → bcs (bs ++ [t]) (gs ++ [g]) = bcs bs gs ++ bc t g
  | [], [], t, g, _ => by simp [bcs]
  | u :: bs, x :: gs, t, g, h => by simp [bcs, bcs_snoc bs gs t g (by simpa using h)]
theorem bcs_get : ∀ (bs : List (Int × List UInt8)) (gs : List (Nat × Nat)) (i : Nat) (t : Int × List UInt8) (g : Nat × Nat), bs[i]? = some t → gs[i]? = some g → (bcs bs gs)[i * 2]? = some (.int .i64 t.1) ∧ (bcs bs gs)[i * 2 + 1]? = some (.slice (some ⟨g.1, 0, none⟩) t.2.length g.2)
  | u :: bs, x :: gs, 0, t, g, h1, h2 => by simp at h1 h2; subst h1 h2; exact ⟨rfl, rfl⟩
  | u :: bs, x :: gs, i + 1, t, g, h1, h2 => by
    have := bcs_get bs gs i t g (by simpa using h1) (by simpa using h2)
    simp only [bcs, bc]
    rw [show (i + 1) * 2 = i * 2 + 1 + 1 by omega]
    exact this
theorem bcs_one : ∀ (bs : List (Int × List UInt8)) (gs : List (Nat × Nat)), ∀ u ∈ bcs bs gs, u.oneCell' = true
  | t :: bs, g :: gs, u, h => by
    simp only [bcs, bc, List.cons_append, List.nil_append, List.mem_cons] at h
    rcases h with rfl | rfl | h
    · rfl
    · rfl
    · exact bcs_one bs gs u h
  | [], _, u, h => by simp [bcs] at h
  | t :: bs, [], u, h => by simp [bcs] at h
/-- Banks in new memory, with a mark behind each. -/
structure OB (W : World) (B : Nat) (v : Value) (bs : List (Int × List UInt8)) (gs : List (Nat × Nat)) : Prop where
  len : gs.length = bs.length
  row : W.ownsRow B 81 2 v bs.length (bcs bs gs)
  dat : ∀ (i : Nat) (t : Int × List UInt8) (g : Nat × Nat), bs[i]? = some t → gs[i]? = some g → Row W B (.slice (some ⟨g.1, 0, none⟩) (t.2.length + 1) g.2) (t.2 ++ [90])
  nd : (gs.map Prod.fst).Nodup
theorem row_pre {W : World} {B : Nat} {g c n : Nat} {l m : List UInt8} (h : Row W B (.slice (some ⟨g, 0, none⟩) n c) (l ++ m)) : Sl W (.slice (some ⟨g, 0, none⟩) l.length c) l := by
  have h' := h
  rcases h.2 with ⟨e, _⟩ | ⟨g', cap, cur, e, _, hg, hcap, _⟩
  · cases e
  · simp only [Value.slice.injEq, Option.some.injEq, Addr.mk.injEq, and_true, true_and] at e
    obtain ⟨rfl, _, rfl⟩ := e
    refine .inr ⟨_, c, rfl, by simp at hcap; omega, fun j b hj => ?_⟩
    have hj2 : (l ++ m)[j]? = some b := by rw [List.getElem?_append_left (List.getElem?_eq_some_iff.1 hj).1]; exact hj
    exact World.ownsRow.cells h' (g := g) rfl j _ ((bv_get _ j _).2 ⟨b, hj2, rfl⟩)
theorem OB.ex {W : World} {B : Nat} {v : Value} {bs : List (Int × List UInt8)} {gs : List (Nat × Nat)} (h : OB W B v bs gs) (hl : ∀ t ∈ bs, t.2.length ≤ room) : ∃ p c, v = .slice p bs.length c ∧ BnS W p bs := by
  rcases h.row.2 with ⟨rfl, e⟩ | ⟨g, cap, cur, rfl, _⟩
  · have : bs = [] := List.eq_nil_of_length_eq_zero e
    subst this
    exact ⟨none, 0, rfl, fun i t ht => by simp at ht⟩
  · refine ⟨_, cap, rfl, fun i t ht => ?_⟩
    have hi := (List.getElem?_eq_some_iff.1 ht).1
    have hig : i < gs.length := by rw [h.len]; exact hi
    have hg : gs[i]? = some gs[i] := List.getElem?_eq_getElem hig
    obtain ⟨k1, k2⟩ := bcs_get bs gs i t _ ht hg
    have c1 := World.ownsRow.cells h.row (g := g) rfl _ _ k1
    have c2 := World.ownsRow.cells h.row (g := g) rfl _ _ k2
    rw [Addr.add_lit] at c1 c2
    refine ⟨g, 0, _, rfl, c1, c2, row_pre (h.dat i t _ ht hg), hl t (List.mem_of_getElem? ht)⟩
theorem OB.kept {W W' : World} {B : Nat} {v : Value} {bs : List (Int × List UInt8)} {gs : List (Nat × Nat)} (h : OB W B v bs gs) (k : ∀ i, B ≤ i → i < W.heap.size → W'.heap[i]? = W.heap[i]?) : OB W' B v bs gs :=
  ⟨h.len, own_kept h.row fun g e hg => k g (h.row.lt g e).1 hg, fun i t g h1 h2 => own_kept (h.dat i t g h1 h2) fun x e hg => k x ((h.dat i t g h1 h2).lt x e).1 hg, h.nd⟩
theorem OB.below {W W' : World} {B : Nat} {v : Value} {bs : List (Int × List UInt8)} {gs : List (Nat × Nat)} (h : OB W B v bs gs) (k : Below W.heap.size W W') : OB W' B v bs gs := h.kept fun i _ hi => k.block i hi
/-- One bank more. -/
theorem OB.snoc {W W1 W2 : World} {B : Nat} {v v' : Value} {bs : List (Int × List UInt8)} {gs : List (Nat × Nat)} (h : OB W B v bs gs) (hB : B ≤ W.heap.size) (t : Int × List UInt8) (g c : Nat) (hb : Below W.heap.size W W1)
    (hd : Row W1 W.heap.size (.slice (some ⟨g, 0, none⟩) (t.2.length + 1) c) (t.2 ++ [90])) (hg : Grew W1 W2 v v') (hr : W2.ownsRow B 81 2 v' (bs.length + 1) (bcs bs gs ++ bc t (g, c))) :
    OB W2 B v' (bs ++ [t]) (gs ++ [(g, c)]) := by
  have hlt : ∀ (i : Nat) (x : Int × List UInt8) (y : Nat × Nat), bs[i]? = some x → gs[i]? = some y → y.1 < W.heap.size := fun i x y h1 h2 => ((h.dat i x y h1 h2).lt y.1 rfl).2
  have hmem : ∀ y ∈ gs, y.1 < W.heap.size := by
    intro y hy
    obtain ⟨i, hi, e⟩ := List.mem_iff_getElem.1 hy
    have hb' : i < bs.length := by rw [← h.len]; exact hi
    exact hlt i bs[i] y (List.getElem?_eq_getElem hb') (by rw [List.getElem?_eq_getElem hi, e])
  have hgw : W.heap.size ≤ g := (hd.lt g rfl).1
  have nv : ∀ k cur, W1.heap[k]? = some (.cells cur 5 (0, 0)) → some k ≠ v.ownBlock := by
    intro k cur e1 e2
    obtain ⟨cur2, e3⟩ := own_block h.row k e2.symm
    have := (hb.block k (lt_of e3)).trans e3
    rw [e1] at this
    simp at this
  have kp : ∀ {x : Value} {n xs}, W1.ownsRow B 5 1 x n xs → W2.ownsRow B 5 1 x n xs := fun hx => own_kept hx fun k e hk => by
    obtain ⟨cur, e1⟩ := own_block hx k e
    exact hg.block k hk (nv k cur e1)
  refine ⟨by simp [h.len], ?_, ?_, ?_⟩
  · rw [bcs_snoc bs gs t (g, c) h.len, List.length_append]; exact hr
  · intro i x y h1 h2
    by_cases hi : i < bs.length
    · rw [List.getElem?_append_left hi] at h1
      rw [List.getElem?_append_left (by rw [h.len]; exact hi)] at h2
      exact kp (Row.below (h.dat i x y h1 h2) hb)
    · rw [List.getElem?_append_right (by omega)] at h1
      rw [List.getElem?_append_right (by rw [h.len]; omega)] at h2
      have e0 : i - bs.length = 0 := by
        have := (List.getElem?_eq_some_iff.1 h1).1; simp at this; omega
      rw [e0] at h1; rw [h.len, e0] at h2
      simp at h1 h2; subst h1 h2
      exact kp (Row.mono hd hB)
  · rw [List.map_append, List.nodup_append]
    refine ⟨h.nd, by simp, ?_⟩
    intro a ha b hb' e
    simp at hb'
    simp only [List.mem_map] at ha
    obtain ⟨y, hy, rfl⟩ := ha
    have := hmem y hy
    omega
set_option maxHeartbeats 2000000
set_option maxRecDepth 100000
theorem slice_to (W : World) (p : Option Addr) (n cap h : Nat) (z : Int) (hz : z = (h : Int)) (hc : h ≤ cap) : (Instr.sliceAt 22 (.slice p n cap) none (some (.int .i64 z)) none).run Tryz.prog W = .ok (.slice p h cap) W := by
  subst hz
  have elem35 : Tryz.prog.underlying 22 = some (.slice (Tryz.prog.elem 22)) := by kernel_rfl
  have size5 : (sizeOf (Tryz.prog.elem 22)).run Tryz.prog W = .ok 1 W := by
    have e : Tryz.prog.elem 22 = 5 := by kernel_rfl
    rw [e]
    exact Tryz.sizeOf5 W
  have e0 : Option.map (fun x : Addr => x.add 0) p = p := by cases p <;> simp [Addr.add]
  rw [run_sliceAt_slice W 22 _ _ _ _ elem35, run_slice_h W 22 p n cap elem35 .i64 (h : Int) (by omega) (by omega), size5]
  simp [Result.andThen, sliced, e0]
end Go.Proofs.YteldjmecomngeaaGreat.M
/-! SameBanks, SameImage, image. -/
namespace Go.Proofs.YteldjmecomngeaaGreat.M
open Go.RowKit
open Go.Proofs
set_option linter.unusedVariables false
set_option linter.unusedSimpArgs false
theorem Sl.conv {W : World} {v : Value} {l : List UInt8} (h : Sl W v l) : (convert 22 9 v).run Tryz.prog W = .ok (.string ⟨l.toArray⟩) W := by
  rcases h with ⟨rfl, rfl⟩ | ⟨x, c, rfl, _, h⟩
  · rw [run_convert_bytes_string W 22 9 5 none 0 0 Tryz.underlying22 Tryz.underlying5 Tryz.underlying9]; rfl
  · exact run_convert_bytes_back (P := Tryz.prog) W 22 9 5 x c l Tryz.underlying22 Tryz.underlying5 Tryz.underlying9 (fun j hj => h j _ (by simp))
set_option maxHeartbeats 2000000
set_option maxRecDepth 100000
theorem sameBanks_any (p p' : Option Addr) (c c' : Nat) (bs : List (Int × List UInt8)) (hl : bs.length ≤ room) (w : World) (h : BnS w p bs) (h' : BnS w p' bs) :
    Calls Tryz.prog 84 #[.slice p bs.length c, .slice p' bs.length c'] w fun e w' => e = .returned (.bool true) ∧ ∃ q, w' = w.drewN q := by
  unfold room at hl
  go_enter Tryz.func84, Tryz.ntmps84
  go_wp2
  go_loopw [13] (fun i wr => ∃ k q : Nat, k ≤ bs.length ∧ i = .int .i64 (k : Int) ∧ wr = w.drewN q) (fun i _ => bs.length - (intOf i).toNat)
  case atStart => exact ⟨0, 0, by omega, rfl, rfl⟩
  case round =>
    obtain ⟨k, q, hk, rfl, rfl⟩ := hrel
    by_cases hlt : k < bs.length
    · have i1 : (k : Int) < bs.length := by omega
      obtain ⟨b, o, dv, rfl, e1, e2, e3, e4⟩ := h k bs[k] (List.getElem?_eq_getElem hlt)
      obtain ⟨b', o', dv', rfl, f1, f2, f3, f4⟩ := h' k bs[k] (List.getElem?_eq_getElem hlt)
      have v1 := fun q => Sl.conv (W := w.drewN q) e3
      have v2 := fun q => Sl.conv (W := w.drewN q) f3
      obtain ⟨dp, dc, rfl, _⟩ := e3.ex
      obtain ⟨dp', dc', rfl, _⟩ := f3.ex
      generalize hn : (bs[k]).1 = n at *
      generalize hL : (bs[k]).2.length = L at *
      generalize hs : (⟨(bs[k]).2.toArray⟩ : ByteArray) = s at *
      clear e3 f3
      have g1 : ∀ q, (w.drewN q).cell? ⟨b, o + k * 2, none⟩ = some (.int .i64 n) := fun q => e1
      have g2 : ∀ q, (w.drewN q).cell? ⟨b, o + k * 2 + 1, none⟩ = some (.slice dp L dc) := fun q => e2
      have g3 : ∀ q, (w.drewN q).cell? ⟨b', o' + k * 2, none⟩ = some (.int .i64 n) := fun q => f1
      have g4 : ∀ q, (w.drewN q).cell? ⟨b', o' + k * 2 + 1, none⟩ = some (.slice dp' L dc') := fun q => f2
      go_wp2_with fail
      go_quiet (fail)
      go_wp2
      go_roundw
      case rel =>
        first
          | exact ⟨k + 1, _, by omega, by go_num, rfl⟩
          | ((repeat apply Exists.intro); refine ⟨⟨k + 1, _, by omega, ?_, rfl⟩, rfl⟩; go_num)
      case measure => simp [intOf]; omega
    · obtain rfl : k = bs.length := by omega
      go_wp2
      go_ret
      exact ⟨rfl, _, rfl⟩
/-- An image, as a value. -/
def img (pb : Option Addr) (nb cb : Nat) (rv sv : Value) (m : MS) : Value := .agg #[.slice pb nb cb, rv, sv, .int .u8 m.ch, .int .u8 m.pad, .int .u16 m.pitch, .int .u8 m.vol, .int .u16 m.time]
theorem sameImage_any (p p' : Option Addr) (c c' : Nat) (bs : List (Int × List UInt8)) (hl : bs.length ≤ room) (rv rv' sv sv' : Value) (ram scr : List UInt8) (m : MS) (w : World) (h : BnS w p bs) (h' : BnS w p' bs)
    (r : Sl w rv ram) (r' : Sl w rv' ram) (s : Sl w sv scr) (s' : Sl w sv' scr) :
    Calls Tryz.prog 39 #[img p bs.length c rv sv m, img p' bs.length c' rv' sv' m] w fun e w' => e = .returned (.bool true) ∧ Below w.heap.size w w' := by
  obtain ⟨W1, hW1⟩ : ∃ W1, W1 = (w.alloc (.cells #[.slice p bs.length c, rv, sv, .int .u8 m.ch, .int .u8 m.pad, .int .u16 m.pitch, .int .u8 m.vol, .int .u16 m.time] 104)).alloc (.cells #[.slice p' bs.length c', rv', sv', .int .u8 m.ch, .int .u8 m.pad, .int .u16 m.pitch, .int .u8 m.vol, .int .u16 m.time] 104) := ⟨_, rfl⟩
  have hB1 : Below w.heap.size w W1 := by rw [hW1]; exact ((Below.refl _ w).alloc (Nat.le_refl _) _).alloc (by simp) _
  have hsb := sameBanks_any p p' c c' bs hl W1 (h.below hB1) (h'.below hB1)
  have v1 := fun q => Sl.conv (W := W1.drewN q) (Sl.below (W' := W1) r hB1)
  have v2 := fun q => Sl.conv (W := W1.drewN q) (Sl.below (W' := W1) r' hB1)
  have v3 := fun q => Sl.conv (W := W1.drewN q) (Sl.below (W' := W1) s hB1)
  have v4 := fun q => Sl.conv (W := W1.drewN q) (Sl.below (W' := W1) s' hB1)
  obtain ⟨rp, rc, rfl, _⟩ := r.ex
  obtain ⟨rp', rc', rfl, _⟩ := r'.ex
  obtain ⟨sp, sc', rfl, _⟩ := s.ex
  obtain ⟨sp', sc'', rfl, _⟩ := s'.ex
  have HB : Hid _ := hB1
  clear hB1 h h' r r' s s'
  subst hW1
  unfold img
  go_enter Tryz.func39, Tryz.ntmps39
  go_wp2_with fail
  refine hsb.mono ?_
  rintro e w2 ⟨rfl, q, rfl⟩
  go_wp2
  go_ret
  exact ⟨rfl, HB.out.os, HB.out.tape, HB.out.output, HB.out.size, HB.out.block⟩
end Go.Proofs.YteldjmecomngeaaGreat.M
/-! banksInOrder, Image. -/
namespace Go.Proofs.YteldjmecomngeaaGreat.M
open Go.RowKit
open Go.Proofs
set_option linter.unusedVariables false
set_option linter.unusedSimpArgs false
/-- Banks in new memory. -/
structure OI (W : World) (B : Nat) (v : Value) (bs : List (Int × List UInt8)) (gs : List (Nat × Nat)) : Prop where
  len : gs.length = bs.length
  row : W.ownsRow B 81 2 v bs.length (bcs bs gs)
  dat : ∀ (i : Nat) (t : Int × List UInt8) (g : Nat × Nat), bs[i]? = some t → gs[i]? = some g → Row W B (.slice (some ⟨g.1, 0, none⟩) t.2.length g.2) t.2
  nd : (gs.map Prod.fst).Nodup
theorem OI.ex {W : World} {B : Nat} {v : Value} {bs : List (Int × List UInt8)} {gs : List (Nat × Nat)} (h : OI W B v bs gs) (hl : ∀ t ∈ bs, t.2.length ≤ room) : ∃ p c, v = .slice p bs.length c ∧ BnS W p bs := by
  rcases h.row.2 with ⟨rfl, e⟩ | ⟨g, cap, cur, rfl, _⟩
  · have : bs = [] := List.eq_nil_of_length_eq_zero e
    subst this
    exact ⟨none, 0, rfl, fun i t ht => by simp at ht⟩
  · refine ⟨_, cap, rfl, fun i t ht => ?_⟩
    have hi := (List.getElem?_eq_some_iff.1 ht).1
    have hig : i < gs.length := by rw [h.len]; exact hi
    have hg : gs[i]? = some gs[i] := List.getElem?_eq_getElem hig
    obtain ⟨k1, k2⟩ := bcs_get bs gs i t _ ht hg
    have c1 := World.ownsRow.cells h.row (g := g) rfl _ _ k1
    have c2 := World.ownsRow.cells h.row (g := g) rfl _ _ k2
    rw [Addr.add_lit] at c1 c2
    refine ⟨g, 0, _, rfl, c1, c2, Row.sl (h.dat i t _ ht hg), hl t (List.mem_of_getElem? ht)⟩
theorem OI.kept {W W' : World} {B : Nat} {v : Value} {bs : List (Int × List UInt8)} {gs : List (Nat × Nat)} (h : OI W B v bs gs) (k : ∀ i, B ≤ i → i < W.heap.size → W'.heap[i]? = W.heap[i]?) : OI W' B v bs gs :=
  ⟨h.len, own_kept h.row fun g e hg => k g (h.row.lt g e).1 hg, fun i t g h1 h2 => own_kept (h.dat i t g h1 h2) fun x e hg => k x ((h.dat i t g h1 h2).lt x e).1 hg, h.nd⟩
theorem OI.below {W W' : World} {B : Nat} {v : Value} {bs : List (Int × List UInt8)} {gs : List (Nat × Nat)} (h : OI W B v bs gs) (k : Below W.heap.size W W') : OI W' B v bs gs := h.kept fun i _ hi => k.block i hi
/-- One bank more. -/
theorem OI.snoc {W W1 W2 : World} {B : Nat} {v v' : Value} {bs : List (Int × List UInt8)} {gs : List (Nat × Nat)} (h : OI W B v bs gs) (hB : B ≤ W.heap.size) (t : Int × List UInt8) (g c : Nat) (hb : Below W.heap.size W W1)
    (hd : Row W1 W.heap.size (.slice (some ⟨g, 0, none⟩) t.2.length c) t.2) (hg : Grew W1 W2 v v') (hr : W2.ownsRow B 81 2 v' (bs.length + 1) (bcs bs gs ++ bc t (g, c))) :
    OI W2 B v' (bs ++ [t]) (gs ++ [(g, c)]) := by
  have hlt : ∀ (i : Nat) (x : Int × List UInt8) (y : Nat × Nat), bs[i]? = some x → gs[i]? = some y → y.1 < W.heap.size := fun i x y h1 h2 => ((h.dat i x y h1 h2).lt y.1 rfl).2
  have hmem : ∀ y ∈ gs, y.1 < W.heap.size := by
    intro y hy
    obtain ⟨i, hi, e⟩ := List.mem_iff_getElem.1 hy
    have hb' : i < bs.length := by rw [← h.len]; exact hi
    exact hlt i bs[i] y (List.getElem?_eq_getElem hb') (by rw [List.getElem?_eq_getElem hi, e])
  have hgw : W.heap.size ≤ g := (hd.lt g rfl).1
  have nv : ∀ k cur, W1.heap[k]? = some (.cells cur 5 (0, 0)) → some k ≠ v.ownBlock := by
    intro k cur e1 e2
    obtain ⟨cur2, e3⟩ := own_block h.row k e2.symm
    have := (hb.block k (lt_of e3)).trans e3
    rw [e1] at this
    simp at this
  have kp : ∀ {x : Value} {n xs}, W1.ownsRow B 5 1 x n xs → W2.ownsRow B 5 1 x n xs := fun hx => own_kept hx fun k e hk => by
    obtain ⟨cur, e1⟩ := own_block hx k e
    exact hg.block k hk (nv k cur e1)
  refine ⟨by simp [h.len], ?_, ?_, ?_⟩
  · rw [bcs_snoc bs gs t (g, c) h.len, List.length_append]; exact hr
  · intro i x y h1 h2
    by_cases hi : i < bs.length
    · rw [List.getElem?_append_left hi] at h1
      rw [List.getElem?_append_left (by rw [h.len]; exact hi)] at h2
      exact kp (Row.below (h.dat i x y h1 h2) hb)
    · rw [List.getElem?_append_right (by omega)] at h1
      rw [List.getElem?_append_right (by rw [h.len]; omega)] at h2
      have e0 : i - bs.length = 0 := by
        have := (List.getElem?_eq_some_iff.1 h1).1; simp at this; omega
      rw [e0] at h1; rw [h.len, e0] at h2
      simp at h1 h2; subst h1 h2
      exact kp (Row.mono hd hB)
  · rw [List.map_append, List.nodup_append]
    refine ⟨h.nd, by simp, ?_⟩
    intro a ha b hb' e
    simp at hb'
    simp only [List.mem_map] at ha
    obtain ⟨y, hy, rfl⟩ := ha
    have := hmem y hy
    omega

/-- The banks below k that there are, by their numbers. -/
def inO (m : MS) (k : Nat) : List (Int × List UInt8) := (List.range k).filterMap fun n => (m.banks n).map fun l => ((n : Int), l)
theorem inO_none (m : MS) (k : Nat) (h : m.banks k = none) : inO m (k + 1) = inO m k := by simp [inO, List.range_succ, List.filterMap_append, h]
theorem inO_some (m : MS) (k : Nat) (l : List UInt8) (h : m.banks k = some l) : inO m (k + 1) = inO m k ++ [((k : Int), l)] := by simp [inO, List.range_succ, List.filterMap_append, h]
theorem inO_len (m : MS) (k : Nat) : (inO m k).length ≤ k := by
  have := List.length_filterMap_le (fun n => (m.banks n).map fun l => ((n : Int), l)) (List.range k)
  simpa [inO] using this
set_option maxHeartbeats 2000000
set_option maxRecDepth 100000
theorem inOrder_any (b : Nat) (w : World) {F : Nat → Prop} {m : MS} (hm : HasM w F b m) :
    Calls Tryz.prog 57 #[.pointer (some ⟨b, 0, none⟩)] w fun e w' => ∃ u gs, e = .returned u ∧ OI w' w.heap.size u (inO m 16) gs ∧ Below w.heap.size w w' := by
  go_enter Tryz.func57, Tryz.ntmps57
  go_wp2
  go_loopw [3, 6] (fun v i wr => ∃ (k : Nat) (gs : List (Nat × Nat)), k ≤ 16 ∧ i = .int .i64 (k : Int) ∧ OI wr w.heap.size v (inO m k) gs ∧ Below w.heap.size w wr) (fun _ i _ => 16 - (intOf i).toNat)
  case atStart => exact ⟨0, [], by omega, rfl, ⟨rfl, World.ownsRow_nil _ _ _ _, fun i t g h1 _ => by simp [inO] at h1, by simp⟩, Below.refl _ _⟩
  case round =>
    obtain ⟨k, gs, hk, rfl, hO, hB⟩ := hrel
    by_cases hlt : k < 16
    · have i1 : (k : Int) < 16 := by omega
      obtain ⟨mb, L, tv, hm2⟩ := hm.below hB
      have cb := cell_of wr b 0 _ 146 _ hm2.blk (mcells_0 mb m tv)
      cases hbk : m.banks k with
      | none =>
        have hlk := look_none wr mb k L hm2.map (by rintro p hp rfl; obtain ⟨l, e2, _⟩ := hm2.bks p hp; rw [hbk] at e2; cases e2)
        have hO2 : OI wr w.heap.size u3 (inO m (k + 1)) gs := by rw [inO_none m k hbk]; exact hO
        have HO2 : Hid _ := hO2
        have HB : Hid _ := hB
        clear hO hO2 hm2 hB hbk
        go_wp2
        go_roundw
        case rel =>
          first
            | exact ⟨k + 1, _, by omega, by go_num, HO2.out, HB.out⟩
            | ((repeat apply Exists.intro); refine ⟨⟨k + 1, _, by omega, ?_, HO2.out, HB.out⟩, rfl⟩; go_num)
        case measure => simp [intOf]; omega
      | some l =>
        obtain ⟨g, hg⟩ := hm2.all _ _ hbk
        obtain ⟨l', e2, hkk⟩ := hm2.bks _ hg
        rw [hbk] at e2; cases e2
        have hlk := look_some wr mb k g L hm2.map hm2.keys hg
        have hl := (hm2.wf.bk _ _ hbk).2
        have hsl : Sl wr (.slice (some ⟨g, 0, none⟩) 16384 16384) l := by
          refine .inr ⟨⟨g, 0, none⟩, 16384, by rw [hl], by rw [hl]; omega, fun j x hj => ?_⟩
          rw [Addr.add_lit, Nat.zero_add]
          exact cell_of wr g _ _ 143 _ hkk ((bv_get l _ _).2 ⟨x, hj, rfl⟩)
        have hcl := clone_any _ l (by rw [hl]; unfold room; omega) wr hsl
        have hin := inO_some m k l hbk
        have hlen := inO_len m k
        clear hm2 hsl hkk hg hbk
        go_wp2_with fail
        refine hcl.mono ?_
        rintro e w2 ⟨u, rfl, hu, hb2⟩
        obtain ⟨g2, cap, rfl⟩ := own_pos hu (by omega)
        have hB4 : Below w.heap.size w w2 := hB.trans (hb2.mono hB.size)
        obtain ⟨W1, hW1⟩ : ∃ W1, W1 = w2.alloc (.cells #[.int .i64 (k : Int), .slice (some ⟨g2, 0, none⟩) l.length cap] 81) := ⟨_, rfl⟩
        have hbl : Below wr.heap.size wr W1 := by rw [hW1]; exact hb2.alloc hb2.size _
        have hown : (w2.alloc (.cells #[.int .i64 (k : Int), .slice (some ⟨g2, 0, none⟩) l.length cap] 81)).ownsRow w.heap.size 81 2 u3 (inO m k).length (bcs (inO m k) gs) := by
          rw [← hW1]; exact own_kept hO.row fun x e hx => hbl.block x hx
        have hcs : Cs (w2.alloc (.cells #[.int .i64 (k : Int), .slice (some ⟨g2, 0, none⟩) l.length cap] 81)) (.slice (some ⟨w2.heap.size, 0, none⟩) 1 1) 2 1 (bc ((k : Int), l) (g2, cap)) := by
          refine .inr ⟨⟨w2.heap.size, 0, none⟩, 1, rfl, rfl, ?_, by intro x hx; simp [bc] at hx; rcases hx with rfl | rfl <;> rfl⟩
          intro j x hj
          have hn : (w2.alloc (.cells #[.int .i64 (k : Int), .slice (some ⟨g2, 0, none⟩) l.length cap] 81)).heap[w2.heap.size]? = some (.cells (bc ((k : Int), l) (g2, cap)).toArray 81 (0, 0)) := heap_alloc_new w2 _
          have e : (⟨w2.heap.size, 0, none⟩ : Addr).add j = ⟨w2.heap.size, j, none⟩ := by rw [Addr.add_lit]; simp
          rw [e]
          exact cell_of _ _ _ _ 81 x hn hj
        have b1 : ((inO m k).length + 1) * 32 ≤ room := by unfold room; omega
        have b2 : (inO m k).length + 1 ≤ maxLen := by unfold maxLen; omega
        have hwz : w.heap.size ≤ (w2.alloc (.cells #[.int .i64 (k : Int), .slice (some ⟨g2, 0, none⟩) l.length cap] 81)).heap.size := by have := hB4.size; simp; omega
        have hend : ∀ v' w4, w4.ownsRow w.heap.size 81 2 v' ((inO m k).length + 1) (bcs (inO m k) gs ++ bc ((k : Int), l) (g2, cap)) → Grew (w2.alloc (.cells #[.int .i64 (k : Int), .slice (some ⟨g2, 0, none⟩) l.length cap] 81)) w4 u3 v' →
            OI w4 w.heap.size v' (inO m (k + 1)) (gs ++ [(g2, cap)]) ∧ Below w.heap.size w w4 := by
          intro v' w4 ho hg
          rw [← hW1] at hg
          rw [hin]
          have hr4 : Row W1 wr.heap.size (.slice (some ⟨g2, 0, none⟩) l.length cap) l := by
            rw [hW1]; exact Row.below hu ((Below.refl _ _).alloc (Nat.le_refl _) _)
          refine ⟨hO.snoc hB.size ((k : Int), l) g2 cap hbl hr4 hg ho, ?_⟩
          refine hg.belowAll (fun x e => (hO.row.lt x e).1) (N := w.heap.size) (W0 := w) ?_ (Nat.le_refl _)
          rw [hW1]; exact hB4.alloc hB4.size _
        have HE : Hid _ := hend
        clear hW1 hbl hend hO hB hB4 hin hu hb2 hlen hl
        go_wp2_with (first | (at_builtin; refine wpList_append_row _ rfl _ _ 25 81 _ 2 32 Tryz.underlying25 info37 rfl (by decide) rfl w.heap.size _ _ _ rfl hown _ 1 (bc ((k : Int), l) (g2, cap)) rfl hcs b1 b2 hwz ?_))
        intro v' w4 ho hg
        obtain ⟨hO2, hB2⟩ := HE.out v' w4 ho hg
        have HO2 : Hid _ := hO2
        have HB2 : Hid _ := hB2
        clear hO2 hB2 ho hg hown hcs HE
        go_wp2
        go_roundw
        case rel =>
          first
            | exact ⟨k + 1, _, by omega, by go_num, HO2.out, HB2.out⟩
            | ((repeat apply Exists.intro); refine ⟨⟨k + 1, _, by omega, ?_, HO2.out, HB2.out⟩, rfl⟩; go_num)
        case measure => simp [intOf]; omega
    · obtain rfl : k = 16 := by omega
      go_wp2
      go_ret
      exact ⟨_, _, rfl, hO, hB⟩
end Go.Proofs.YteldjmecomngeaaGreat.M
/-! Image. -/
namespace Go.Proofs.YteldjmecomngeaaGreat.M
open Go.RowKit
open Go.Proofs
set_option linter.unusedVariables false
set_option linter.unusedSimpArgs false
/-- What an image holds, in new memory: nothing of it shares a block. -/
structure ImO (W : World) (B : Nat) (u rv sv : Value) (bs : List (Int × List UInt8)) (ram scr : List UInt8) (gs : List (Nat × Nat)) (N1 N2 : Nat) : Prop where
  banks : OI W B u bs gs
  ram : Row W N1 rv ram
  scr : Row W N2 sv scr
  b1 : B ≤ N1
  g1 : ∀ y ∈ gs, y.1 < N1
  o1 : ∀ g, u.ownBlock = some g → g < N1
  r1 : ∀ g, rv.ownBlock = some g → g < N2
  n12 : N1 ≤ N2
theorem OI.mem_lt {W : World} {B : Nat} {v : Value} {bs : List (Int × List UInt8)} {gs : List (Nat × Nat)} (h : OI W B v bs gs) (y : Nat × Nat) (hy : y ∈ gs) : y.1 < W.heap.size := by
  obtain ⟨i, hi, e⟩ := List.mem_iff_getElem.1 hy
  have hb' : i < bs.length := by rw [← h.len]; exact hi
  exact ((h.dat i bs[i] y (List.getElem?_eq_getElem hb') (by rw [List.getElem?_eq_getElem hi, e])).lt y.1 rfl).2
theorem cell_far (W : World) (N i : Nat) (v : Value) (b j : Nat) (h : b ≠ N) : (W.setCell ⟨N, i, none⟩ v).cell? ⟨b, j, none⟩ = W.cell? ⟨b, j, none⟩ :=
  World.cell?_of_block (w := W) (setCell_other W N i b v h)
theorem own_form {w : World} {B : Nat} {e : TypeId} {size : Nat} {v : Value} {n : Nat} {xs : List Value} (h : w.ownsRow B e size v n xs) : ∃ p cap, v = .slice p n cap := by
  rcases h.2 with ⟨h, e⟩ | ⟨g, cap, cur, h1, _⟩
  · exact ⟨none, 0, by rw [h, e]⟩
  · exact ⟨_, cap, h1⟩
def imgC (u rv sv : Value) (m : MS) : List Value := [u, rv, sv, .int .u8 m.ch, .int .u8 m.pad, .int .u16 m.pitch, .int .u8 m.vol, .int .u16 m.time]
/-- The eight cells of an image, stored one by one. -/
def st8 (W : World) (N : Nat) (u rv sv : Value) (m : MS) : World :=
  (((((((W.setCell ⟨N, 0, none⟩ u).setCell ⟨N, 1, none⟩ rv).setCell ⟨N, 2, none⟩ sv).setCell ⟨N, 3, none⟩ (.int .u8 m.ch)).setCell ⟨N, 4, none⟩ (.int .u8 m.pad)).setCell ⟨N, 5, none⟩ (.int .u16 m.pitch)).setCell ⟨N, 6, none⟩ (.int .u8 m.vol)).setCell ⟨N, 7, none⟩ (.int .u16 m.time)
theorem st8_heap (W : World) (N : Nat) (u rv sv : Value) (m : MS) (c : List Value) (t : TypeId) (hc : c.length = 8) (h : W.heap[N]? = some (.cells c.toArray t (0, 0))) : (st8 W N u rv sv m).heap[N]? = some (.cells (imgC u rv sv m).toArray t (0, 0)) := by
  unfold st8
  match c, hc with
  | [a0, a1, a2, a3, a4, a5, a6, a7], _ =>
    have h1 := setCell_heap _ _ 0 _ _ u h
    have h2 := setCell_heap _ _ 1 _ _ rv h1
    have h3 := setCell_heap _ _ 2 _ _ sv h2
    have h4 := setCell_heap _ _ 3 _ _ (.int .u8 m.ch) h3
    have h5 := setCell_heap _ _ 4 _ _ (.int .u8 m.pad) h4
    have h6 := setCell_heap _ _ 5 _ _ (.int .u16 m.pitch) h5
    have h7 := setCell_heap _ _ 6 _ _ (.int .u8 m.vol) h6
    have h8 := setCell_heap _ _ 7 _ _ (.int .u16 m.time) h7
    rw [h8]; rfl
theorem st8_other (W : World) (N k : Nat) (u rv sv : Value) (m : MS) (h : k ≠ N) : (st8 W N u rv sv m).heap[k]? = W.heap[k]? := by
  unfold st8
  simp only [setCell_other _ N _ k _ h]
theorem st8_size (W : World) (N : Nat) (u rv sv : Value) (m : MS) : (st8 W N u rv sv m).heap.size = W.heap.size := by
  unfold st8; simp only [setCell_size]
theorem st8_below (W : World) (N : Nat) (u rv sv : Value) (m : MS) {B : Nat} {W0 : World} (h : Below B W0 W) (hN : B ≤ N) : Below B W0 (st8 W N u rv sv m) :=
  have e1 : ∀ (W : World) a v, (W.setCell a v).os = W.os := fun _ _ _ => rfl
  have e2 : ∀ (W : World) a v, (W.setCell a v).tape = W.tape := fun _ _ _ => rfl
  have e3 : ∀ (W : World) a v, (W.setCell a v).output = W.output := fun _ _ _ => rfl
  ⟨by simp only [st8, e1]; exact h.os, by simp only [st8, e2]; exact h.tape, by simp only [st8, e3]; exact h.output, by rw [st8_size]; exact h.size, fun k hk => (st8_other W N k u rv sv m (by omega)).trans (h.block k hk)⟩
theorem image_end (w w1 w2 w3 w4 : World) (m : MS) (p2 : Option Addr) (cp2 g3 cp3 g4 cp4 : Nat) (gs : List (Nat × Nat)) (hb1 : Below w.heap.size w w1) (hz1 : w1.heap.size = w.heap.size + 1)
    (hb2 : Below w1.drew.heap.size w1.drew w2) (hb3 : Below w2.heap.size w2 w3) (hb4 : Below w3.heap.size w3 w4) (hO2 : OI w2 w1.drew.heap.size (.slice p2 (inO m 16).length cp2) (inO m 16) gs)
    (hO3 : Row w3 w2.heap.size (.slice (some ⟨g3, 0, none⟩) m.ram.length cp3) m.ram) (hO4 : Row w4 w3.heap.size (.slice (some ⟨g4, 0, none⟩) m.scr.length cp4) m.scr)
    (hr1 : w1.heap[w.heap.size]? = some (.cells [.slice none 0 0, .slice none 0 0, .slice none 0 0, .int .u8 0, .int .u8 0, .int .u16 0, .int .u8 0, .int .u16 0].toArray 71 (0, 0))) :
    (st8 w4 w.heap.size (.slice p2 (inO m 16).length cp2) (.slice (some ⟨g3, 0, none⟩) m.ram.length cp3) (.slice (some ⟨g4, 0, none⟩) m.scr.length cp4) m).heap[w.heap.size]? = some (.cells (imgC (.slice p2 (inO m 16).length cp2) (.slice (some ⟨g3, 0, none⟩) m.ram.length cp3) (.slice (some ⟨g4, 0, none⟩) m.scr.length cp4) m).toArray 71 (0, 0)) ∧
    ImO (st8 w4 w.heap.size (.slice p2 (inO m 16).length cp2) (.slice (some ⟨g3, 0, none⟩) m.ram.length cp3) (.slice (some ⟨g4, 0, none⟩) m.scr.length cp4) m) w.heap.size (.slice p2 (inO m 16).length cp2) (.slice (some ⟨g3, 0, none⟩) m.ram.length cp3) (.slice (some ⟨g4, 0, none⟩) m.scr.length cp4) (inO m 16) m.ram m.scr gs w2.heap.size w3.heap.size ∧
    Below w.heap.size w (st8 w4 w.heap.size (.slice p2 (inO m 16).length cp2) (.slice (some ⟨g3, 0, none⟩) m.ram.length cp3) (.slice (some ⟨g4, 0, none⟩) m.scr.length cp4) m) := by
  have z1 : w1.drew.heap.size = w.heap.size + 1 := hz1
  have z2 := hb2.size
  have z3 := hb3.size
  have z4 := hb4.size
  have hr4 : w4.heap[w.heap.size]? = some (.cells [.slice none 0 0, .slice none 0 0, .slice none 0 0, .int .u8 0, .int .u8 0, .int .u16 0, .int .u8 0, .int .u16 0].toArray 71 (0, 0)) :=
    (hb4.block _ (by omega)).trans ((hb3.block _ (by omega)).trans ((hb2.block _ (by omega)).trans hr1))
  generalize hu : Value.slice p2 (inO m 16).length cp2 = u at *
  generalize hrv : Value.slice (some ⟨g3, 0, none⟩) m.ram.length cp3 = rv at *
  generalize hsv : Value.slice (some ⟨g4, 0, none⟩) m.scr.length cp4 = sv at *
  have far : ∀ k, w.heap.size < k → (st8 w4 w.heap.size u rv sv m).heap[k]? = w4.heap[k]? := fun k hk => st8_other w4 w.heap.size k u rv sv m (by omega)
  have hB4 : Below w.heap.size w w4 := ((hb1.trans (by exact ⟨hb2.os, hb2.tape, hb2.output, by rw [z1] at z2; omega, fun k hk => hb2.block k (by omega)⟩)).trans (hb3.mono (by omega))).trans (hb4.mono (by omega))
  refine ⟨st8_heap w4 _ u rv sv m _ 71 rfl hr4, ⟨?_, ?_, ?_, by omega, fun y hy => hO2.mem_lt y hy, fun g e => (hO2.row.lt g e).2, fun g e => (hO3.lt g e).2, z3⟩, st8_below w4 _ u rv sv m hB4 (Nat.le_refl _)⟩
  · have := hO2.kept (W' := st8 w4 w.heap.size u rv sv m) fun i hi hl => (far i (by omega)).trans ((hb4.block i (by omega)).trans (hb3.block i hl))
    exact ⟨this.len, own_mono this.row (by omega), fun i t g a c => Row.mono (this.dat i t g a c) (by omega), this.nd⟩
  · exact hO3.kept fun g e hg => (far g (by have := (hO3.lt g e).1; omega)).trans (hb4.block g hg)
  · exact hO4.kept fun g e hg => far g (by have := (hO4.lt g e).1; omega)
end Go.Proofs.YteldjmecomngeaaGreat.M
/-! whole, Restore. -/
namespace Go.Proofs.YteldjmecomngeaaGreat.M
open Go.RowKit
open Go.Proofs
set_option linter.unusedVariables false
set_option linter.unusedSimpArgs false
def allF (bs : List (Int × List UInt8)) : Bool := bs.all fun t => t.2.length == 16384
def whB (bs : List (Int × List UInt8)) (ram scr : List UInt8) (ch : Int) : Bool := allF bs && (ram.length == 16384) && (scr.length == 3072) && decide (ch < 16)
theorem allF_at (bs : List (Int × List UInt8)) (k : Nat) (hk : k < bs.length) (h : (bs[k]).2.length ≠ 16384) : allF bs = false := by
  rw [Bool.eq_false_iff]; intro c
  rw [allF, List.all_eq_true] at c
  exact h (by simpa using c _ (List.getElem_mem hk))
theorem allF_all (bs : List (Int × List UInt8)) (h : ∀ (j : Nat) t, bs[j]? = some t → t.2.length = 16384) : allF bs = true := by
  rw [allF, List.all_eq_true]
  intro t ht
  obtain ⟨j, hj, e⟩ := List.mem_iff_getElem.1 ht
  simpa using h j t (by rw [List.getElem?_eq_getElem hj, e])
set_option maxHeartbeats 2000000
set_option maxRecDepth 100000
theorem whole_any (p : Option Addr) (c : Nat) (bs : List (Int × List UInt8)) (hl : bs.length ≤ room) (rp sp : Option Addr) (rn rc sn sc' : Nat) (m : MS) (w : World) (h : BnS w p bs) (ram scr : List UInt8) (hrn : rn = ram.length) (hsn : sn = scr.length) :
    Calls Tryz.prog 93 #[.agg (imgC (.slice p bs.length c) (.slice rp rn rc) (.slice sp sn sc') m).toArray] w fun e w' => e = .returned (.bool (whB bs ram scr m.ch)) ∧ Below w.heap.size w w' := by
  unfold room at hl
  subst hrn hsn
  obtain ⟨w1, hw1⟩ : ∃ w1, w1 = w.alloc (.cells (imgC (.slice p bs.length c) (.slice rp ram.length rc) (.slice sp scr.length sc') m).toArray 71) := ⟨_, rfl⟩
  have hB1 : Below w.heap.size w w1 := by rw [hw1]; exact (Below.refl _ w).alloc (Nat.le_refl _) _
  have hx : w1.heap[w.heap.size]? = some (.cells (imgC (.slice p bs.length c) (.slice rp ram.length rc) (.slice sp scr.length sc') m).toArray 71 (0, 0)) := by rw [hw1]; exact heap_alloc_new w _
  have hz : w1.heap.size = w.heap.size + 1 := by rw [hw1]; simp
  have c0 := cell_of w1 _ 0 _ 71 _ hx rfl
  have HB1 : Hid _ := hB1
  have HX : Hid _ := hx
  have HZ : Hid _ := hz
  clear hB1 hx hz
  unfold imgC at hw1 ⊢
  go_enter Tryz.func93, Tryz.ntmps93
  go_wp2_with fail
  rw [← hw1]
  clear hw1
  go_wp2
  go_loopw [8] (fun i wr => ∃ k : Nat, k ≤ bs.length ∧ i = .int .i64 (k : Int) ∧ (∀ (j : Nat) t, j < k → bs[j]? = some t → t.2.length = 16384) ∧ Below w1.heap.size w1 wr) (fun i _ => bs.length - (intOf i).toNat)
  case atStart => exact ⟨0, by omega, rfl, fun j t hj => by omega, Below.refl _ _⟩
  case round =>
    obtain ⟨k, hk, rfl, hA, hB⟩ := hrel
    have hBw : Below w.heap.size w wr := HB1.out.trans (hB.mono HB1.out.size)
    by_cases hlt : k < bs.length
    · have i1 : (k : Int) < bs.length := by omega
      obtain ⟨b, o, dv, rfl, e1, e2, e3, e4⟩ := h.below hBw k bs[k] (List.getElem?_eq_getElem hlt)
      obtain ⟨dp, dc, rfl, _⟩ := e3.ex
      unfold room at e4
      have hAf := allF_at bs k hlt
      have hA2 : (bs[k]).2.length = 16384 → ∀ (j : Nat) t, j < k + 1 → bs[j]? = some t → t.2.length = 16384 := by
        intro c j t hj ht
        by_cases e : j = k
        · subst e; rw [List.getElem?_eq_getElem hlt] at ht; cases ht; exact c
        · exact hA j t (by omega) ht
      have hB2 : Below w1.heap.size w1 (wr.alloc (Obj.cells #[.int .i64 (bs[k]).1, .slice dp (bs[k]).2.length dc] 81)) := hB.alloc hB.size _
      have hB3 : Below w.heap.size w (wr.alloc (Obj.cells #[.int .i64 (bs[k]).1, .slice dp (bs[k]).2.length dc] 81)) := hBw.alloc hBw.size _
      clear e3 hA hB hBw
      generalize hn : (bs[k]).1 = n at *
      generalize hL : (bs[k]).2.length = L at *
      have HA : Hid _ := hA2
      have HB : Hid _ := hB2
      have HB3 : Hid _ := hB3
      have HF : Hid _ := hAf
      clear hA2 hB2 hB3 hAf hL hn
      by_cases c1 : L = 16384
      · have d1 : ((L : Int) != 16384) = false := by simp; omega
        have HA3 : Hid _ := HA.out c1
        clear c1 HA HF
        go_wp2
        go_roundw
        case rel =>
          first
            | exact ⟨k + 1, by omega, by go_num, HA3.out, HB.out⟩
            | ((repeat apply Exists.intro); refine ⟨⟨k + 1, by omega, ?_, HA3.out, HB.out⟩, rfl⟩; go_num)
        case measure => simp [intOf]; omega
      · have d1 : ((L : Int) != 16384) = true := by simp; omega
        have f1 : whB bs ram scr m.ch = false := by simp [whB, HF.out c1]
        clear c1 HA HF
        go_wp2
        go_ret
        exact ⟨by rw [f1]; rfl, HB3.out⟩
    · obtain rfl : k = bs.length := by omega
      have hAf := allF_all bs (fun j t ht => hA j t (List.getElem?_eq_some_iff.1 ht).1 ht)
      have hx2 : wr.heap[w.heap.size]? = _ := (hB.block _ (by rw [HZ.out]; omega)).trans HX.out
      have k1 := cell_of wr _ 1 _ 71 _ hx2 rfl
      have k2 := cell_of wr _ 2 _ 71 _ hx2 rfl
      have k3 := cell_of wr _ 3 _ 71 _ hx2 rfl
      have HBw : Hid _ := hBw
      clear hx2 hA hB hBw
      have hw' : whB bs ram scr m.ch = ((ram.length == 16384) && (scr.length == 3072) && decide (m.ch < 16)) := by simp [whB, hAf]
      have HW : Hid _ := hw'
      clear hAf hw'
      by_cases q1 : ram.length = 16384
      · by_cases q2 : scr.length = 3072
        · by_cases q3 : m.ch < 16
          · have d1 : ((ram.length : Int) == 16384) = true := by simp; omega
            have d2 : ((scr.length : Int) == 3072) = true := by simp; omega
            have d3 : decide (m.ch < 16) = true := by simpa using q3
            have d4 : (ram.length == 16384) = true := by simpa using q1
            have d5 : (scr.length == 3072) = true := by simpa using q2
            clear q1 q2 q3
            go_wp2
            go_ret
            (refine ⟨congrArg Ending.returned (congrArg Value.bool ?_), HBw.out⟩; rw [HW.out]; simp [d3, d4, d5])
          · have d1 : ((ram.length : Int) == 16384) = true := by simp; omega
            have d2 : ((scr.length : Int) == 3072) = true := by simp; omega
            have d3 : decide (m.ch < 16) = false := by simpa using q3
            clear q1 q2 q3
            go_wp2
            go_ret
            (refine ⟨congrArg Ending.returned (congrArg Value.bool ?_), HBw.out⟩; rw [HW.out]; simp [d3])
        · have d1 : ((ram.length : Int) == 16384) = true := by simp; omega
          have d2 : ((scr.length : Int) == 3072) = false := by simp; omega
          have d5 : (scr.length == 3072) = false := by simpa using q2
          clear q1 q2
          go_wp2
          go_ret
          (refine ⟨congrArg Ending.returned (congrArg Value.bool ?_), HBw.out⟩; rw [HW.out]; simp [d5])
      · have d1 : ((ram.length : Int) == 16384) = false := by simp; omega
        have d4 : (ram.length == 16384) = false := by simpa using q1
        clear q1
        go_wp2
        go_ret
        (refine ⟨congrArg Ending.returned (congrArg Value.bool ?_), HBw.out⟩; rw [HW.out]; simp [d4])
end Go.Proofs.YteldjmecomngeaaGreat.M
/-! Restore. -/
namespace Go.Proofs.YteldjmecomngeaaGreat.M
open Go.RowKit
open Go.Proofs
set_option linter.unusedVariables false
set_option linter.unusedSimpArgs false
/-- A memory whose own block is another, and nothing else. -/
theorem MemP.reblk {W W' : World} {F : Nat → Prop} {b : Nat} {m : MS} {mb : Nat} {L : List (Nat × Nat)} {tv : Value} (h : MemP W F b m mb L tv) (m' : MS) (wf : Wf m') (hb : W'.heap[b]? = some (.cells (mcells mb m' tv).toArray 146 (0, 0)))
    (k : ∀ i, i ≠ b → W'.heap[i]? = W.heap[i]?) (e3 : m'.banks = m.banks) (e4 : m'.tones = m.tones) : MemP W' F b m' mb L tv :=
  { wf := wf
    blk := hb
    map := (k _ h.ne_map).trans h.map
    keys := h.keys
    lt16 := h.lt16
    blks := h.blks
    bks := fun p hp => by obtain ⟨l, e1, e2⟩ := h.bks p hp; exact ⟨l, by rw [e3]; exact e1, (k _ (h.ne_bk p hp)).trans e2⟩
    all := fun n l hn => h.all n l (by rw [← e3]; exact hn)
    tones := by rw [e4]; exact own_kept h.tones fun g e _ => k _ (h.ne_t g e)
    fb := h.fb
    fmb := h.fmb
    fbk := h.fbk
    ft := h.ft }
theorem info5s : (Tryz.prog.info? 5).map (·.size) = some 1 := by kernel_rfl
theorem copy_part (W : World) (b o n : Nat) (v : Value) (l : List UInt8) (c : List Value) (hb : W.heap[b]? = some (.cells c.toArray 146 (0, 0))) (hs : Sl W v l) (hl : l.length = n) (hn : 0 < n) (hc : o + n ≤ c.length) :
    ∃ W', (Builtin.copy_ #[22, 22] 3 #[.slice (some ⟨b, o, none⟩) n n, v]).run Tryz.prog W = .ok (.int .i64 (n : Int)) W' ∧ W'.heap[b]? = some (.cells (c.take o ++ bv l ++ c.drop (o + n)).toArray 146 (0, 0)) ∧ (∀ k, k ≠ b → W'.heap[k]? = W.heap[k]?) ∧ W'.heap.size = W.heap.size ∧ W'.os = W.os ∧ W'.tape = W.tape ∧ W'.output = W.output := by
  rcases hs with ⟨rfl, rfl⟩ | ⟨x, cc, rfl, hcc, hcell⟩
  · simp at hl; omega
  · have hr := run_copy_row (P := Tryz.prog) W 22 22 3 5 b o n n x l.length cc c.toArray 146 (bv l) Tryz.underlying22 info5s hb (by rw [bv_len, hl]; exact (Nat.min_self n).symm)
      (fun j u hj => by obtain ⟨y, hy, rfl⟩ := (bv_get l j u).1 hj; exact hcell j y hy) (by rw [bv_len, hl, List.size_toArray]; exact hc) (bv_one l)
    rw [bv_len, hl] at hr
    rw [hl]
    exact ⟨_, hr, setRow_eq W b c 146 _ hb, fun k hk => setRow_other W b k _ hk, size_setRow _ _ _, rfl, rfl, rfl⟩
theorem mcells_ram_new (mb : Nat) (m : MS) (tv : Value) (h : Wf m) (l : List UInt8) : (mcells mb m tv).take 1 ++ bv l ++ (mcells mb m tv).drop (1 + 16384) = mcells mb { m with ram := l } tv := by
  have e : (mcells mb m tv).drop (1 + 16384) = bv m.scr ++ regs m tv := by
    rw [mcells, Nat.add_comm, List.drop_succ_cons, List.drop_append_of_le_length (by rw [bv_len, h.ram]; omega), List.drop_of_length_le (by rw [bv_len, h.ram]; omega), List.nil_append]
  rw [e]; rfl
theorem mcells_scr_new (mb : Nat) (m : MS) (tv : Value) (h : Wf m) (l : List UInt8) : (mcells mb m tv).take 16385 ++ bv l ++ (mcells mb m tv).drop (16385 + 3072) = mcells mb { m with scr := l } tv := by
  have e1 : (mcells mb m tv).take 16385 = Value.map (some mb) :: bv m.ram := by
    rw [mcells, List.take_succ_cons, List.take_append_of_le_length (by rw [bv_len, h.ram]; omega), List.take_of_length_le (by rw [bv_len, h.ram]; omega)]
  have e2 : (mcells mb m tv).drop (16385 + 3072) = regs m tv := by
    rw [mcells, show 16385 + 3072 = (16384 + 3072) + 1 by omega, List.drop_succ_cons, List.drop_append, bv_len, h.ram, List.drop_of_length_le (by rw [bv_len, h.ram]; omega), List.nil_append, show 16384 + 3072 - 16384 = 3072 by omega,
      List.drop_append, bv_len, h.scr, List.drop_of_length_le (by rw [bv_len, h.scr]; omega), List.nil_append]
    rfl
  rw [e1, e2]; simp [mcells, regs]
/-- The memory that Restore makes. -/
def mR (bs : List (Int × List UInt8)) (ram scr : List UInt8) (m : MS) : MS := { ram := ram, scr := scr, ch := m.ch, pad := m.pad, pitch := m.pitch, vol := m.vol, time := m.time, cyc := 0, tones := [], banks := nbk bs }
end Go.Proofs.YteldjmecomngeaaGreat.M
