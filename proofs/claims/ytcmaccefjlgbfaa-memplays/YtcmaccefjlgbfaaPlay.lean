import Derived.Test.YtcmaccefjlgbfaaStore
/-! A tone is played. -/
namespace Go.Proofs.Ytcmaccefjlgbfaa
open Go.RowKit
open Go.Proofs
set_option linter.unusedVariables false
set_option linter.unusedSimpArgs false
theorem MemP.tone {W W1 W2 : World} {F : Nat → Prop} {b : Nat} {m : MS} {mb : Nat} {L : List (Nat × Nat)} {tv tv' : Value} (h : MemP W F b m mb L tv) (hb : Below W.heap.size W W1) (hg : Grew W1 W2 tv tv') (t : Int × Int × Int)
    (ho : W2.ownsRow 0 90 3 tv' (m.tones.length + 1) (tc m.tones ++ tcell t)) :
    MemP (W2.setCell ⟨b, 19463, none⟩ tv') (gr F W W2) b { m with tones := m.tones ++ [t] } mb L tv' ∧ Tc F W (W2.setCell ⟨b, 19463, none⟩ tv') := by
  have k2 : ∀ k, k < W.heap.size → some k ≠ tv.ownBlock → W2.heap[k]? = W.heap[k]? := fun k hk hn => (hg.block k (Nat.lt_of_lt_of_le hk hb.size) hn).trans (hb.block k hk)
  have nt : ∀ k, k < W.heap.size → (∀ g, tv.ownBlock = some g → k ≠ g) → some k ≠ tv.ownBlock := fun k _ hn e => hn k e.symm rfl
  have hwf : Wf { m with tones := m.tones ++ [t] } := ⟨h.wf.ram, h.wf.scr, h.wf.ch0, h.wf.ch1, h.wf.pad0, h.wf.pad1, h.wf.pitch0, h.wf.pitch1, h.wf.vol0, h.wf.vol1, h.wf.time0, h.wf.time1, h.wf.bk⟩
  have blk2 : W2.heap[b]? = some (.cells (mcells mb m tv).toArray 86 (0, 0)) := (k2 b (lt_of h.blk) (nt b (lt_of h.blk) fun g e c => h.ne_t g e c.symm)).trans h.blk
  have hne : ∀ g, tv'.ownBlock = some g → g ≠ b := by
    intro g e c; subst c
    obtain ⟨cur, e2⟩ := own_block ho g e
    rw [blk2] at e2; simp at e2
  refine ⟨⟨hwf, ?_, ?_, h.keys, h.lt16, h.blks, ?_, h.all, ?_, .inl h.fb, .inl h.fmb, fun p hp => .inl (h.fbk p hp), ?_⟩, ?_⟩
  · rw [setCell_heap W2 b 19463 _ 86 tv' blk2]
    have := mcells_set_reg mb m tv h.wf 6 tv'
    rw [show (19463 : Nat) = 19457 + 6 from rfl, this]
    rfl
  · exact (setCell_other _ _ _ _ _ h.ne_map).trans ((k2 mb (lt_of h.map) (nt mb (lt_of h.map) fun g e c => h.ne_t_map g e c)).trans h.map)
  · intro p hp
    obtain ⟨l, e1, e2⟩ := h.bks p hp
    exact ⟨l, e1, (setCell_other _ _ _ _ _ (h.ne_bk p hp)).trans ((k2 p.2 (lt_of e2) (nt p.2 (lt_of e2) fun g e c => h.ne_t_bk g e p hp c)).trans e2)⟩
  · refine own_kept ?_ fun g e _ => setCell_other _ _ _ _ _ (hne g e)
    rw [tc_append]
    simpa [tc] using ho
  · intro g e
    rcases hg.own with c | c
    · exact .inl (h.ft g (c ▸ e))
    · refine .inr ⟨Nat.le_trans hb.size (c g e), ?_⟩
      exact (ho.lt g e).2
  · refine ⟨hg.os.trans hb.os, hg.tape.trans hb.tape, hg.output.trans hb.output, by rw [setCell_size]; exact Nat.le_trans hb.size hg.size, fun k hk hn => ?_⟩
    refine (setCell_other _ _ _ _ _ (by rintro rfl; exact hn h.fb)).trans (k2 k hk ?_)
    intro e; exact hn (h.ft k e.symm)

set_option maxHeartbeats 1000000
set_option maxRecDepth 100000
theorem setPort_play (b : Nat) (x : UInt8) (w : World) {F : Nat → Prop} {m : MS} (hm : HasM w F b m) (ht : m.tones.length ≤ 1000000) :
    Calls Try.prog 41 #[.pointer (some ⟨b, 0, none⟩), .int .u16 65286, .int .u8 (bt x)] w fun e w' => e = .returned (.tuple #[]) ∧ Done w w' F b (stp m 65286 x) := by
  obtain ⟨mb, L, tv, hm⟩ := hm
  have c2 := cell_of w b (19457 + 3) _ 86 _ hm.blk ((mcells_reg mb m tv hm.wf 3).trans rfl)
  have z2 := frozen_of w b (19457 + 3) _ 86 hm.blk
  simp only [Nat.reduceAdd] at c2 z2
  have hb := bt_bound x
  have hw := hm.wf
  have h1 : MemP (w.setCell ⟨b, 19457 + 3, none⟩ (.int .u8 (bt x))) F b { m with vol := bt x } mb L tv := hm.reg 3 _ _ (hw.regs rfl rfl rfl hw.ch0 hw.ch1 hw.pad0 hw.pad1 hw.pitch0 hw.pitch1 hb.1 hb.2 hw.time0 hw.time1) rfl rfl rfl rfl rfl
  obtain ⟨w1, hw1⟩ : ∃ w1, w1 = w.setCell ⟨b, 19460, none⟩ (.int .u8 (bt x)) := ⟨_, rfl⟩
  have t1 : Tc F w w1 := by rw [hw1]; exact (Tc.refl F w).setCell b _ hm.fb _
  simp only [Nat.reduceAdd, ← hw1] at h1
  have d2 := cell_of w1 b (19457 + 2) _ 86 _ h1.blk ((mcells_reg mb _ tv h1.wf 2).trans rfl)
  have d5 := cell_of w1 b (19457 + 5) _ 86 _ h1.blk ((mcells_reg mb _ tv h1.wf 5).trans rfl)
  have d6 := cell_of w1 b (19457 + 6) _ 86 _ h1.blk ((mcells_reg mb _ tv h1.wf 6).trans rfl)
  have z6 := frozen_of w1 b (19457 + 6) _ 86 h1.blk
  simp only [Nat.reduceAdd] at d2 d5 d6 z6
  go_enter Try.func41, Try.ntmps41
  go_wp2_with fail
  rw [← hw1]
  clear c2 z2
  obtain ⟨W1, hW1⟩ : ∃ W1, W1 = w1.drew.alloc (.cells #[.int .i64 m.cyc, .int .u16 m.pitch, .int .u8 (bt x)] 90) := ⟨_, rfl⟩
  have hbl : Below w1.heap.size w1 W1 := by rw [hW1]; exact ((Below.refl w1.heap.size w1).drew).alloc (Nat.le_refl _) _
  have hown : (w1.drew.alloc (.cells #[.int .i64 m.cyc, .int .u16 m.pitch, .int .u8 (bt x)] 90)).ownsRow 0 90 3 tv m.tones.length (tc m.tones) := by
    rw [← hW1]; exact own_kept h1.tones fun g _ hg => hbl.block g hg
  have hcs : Cs (w1.drew.alloc (.cells #[.int .i64 m.cyc, .int .u16 m.pitch, .int .u8 (bt x)] 90)) (.slice (some ⟨w1.heap.size, 0, none⟩) 1 1) 3 1 (tcell (m.cyc, m.pitch, bt x)) := by
    refine .inr ⟨⟨w1.heap.size, 0, none⟩, 1, rfl, rfl, ?_, tc_one [(m.cyc, m.pitch, bt x)]⟩
    intro j v hj
    have hn : (w1.drew.alloc (.cells #[.int .i64 m.cyc, .int .u16 m.pitch, .int .u8 (bt x)] 90)).heap[w1.heap.size]? = some (.cells (tcell (m.cyc, m.pitch, bt x)).toArray 90 (0, 0)) := heap_alloc_new w1.drew _
    have e : (⟨w1.heap.size, 0, none⟩ : Addr).add j = ⟨w1.heap.size, j, none⟩ := by unfold Addr.add; split <;> simp_all
    rw [e]
    exact cell_of _ _ _ _ 90 v hn hj
  have b1 : (m.tones.length + 1) * 16 ≤ room := by unfold room; omega
  have b2 : m.tones.length + 1 ≤ maxLen := by unfold maxLen; omega
  have hne : ∀ g, tv.ownBlock = some g → g ≠ b := fun g e => h1.ne_t g e
  have hend : ∀ v' w2, w2.ownsRow 0 90 3 v' (m.tones.length + 1) (tc m.tones ++ tcell (m.cyc, m.pitch, bt x)) → Grew (w1.drew.alloc (.cells #[.int .i64 m.cyc, .int .u16 m.pitch, .int .u8 (bt x)] 90)) w2 tv v' →
      w2.cell? ⟨b, 19463, none⟩ = some tv ∧ w2.frozen? ⟨b, 19463, none⟩ = false ∧ Done w (w2.setCell ⟨b, 19463, none⟩ v') F b (stp m 65286 x) := by
    intro v' w2 ho hg
    rw [← hW1] at hg
    have hk : w2.heap[b]? = w1.heap[b]? := (hg.block b (Nat.lt_of_lt_of_le (lt_of h1.blk) hbl.size) (fun e => hne b e.symm rfl)).trans (hbl.block b (lt_of h1.blk))
    refine ⟨(World.cell?_of_block (w := w1) hk).trans d6, (World.frozen?_of_block (w := w1) hk).trans z6, ?_⟩
    obtain ⟨hM, hT⟩ := h1.tone hbl hg (m.cyc, m.pitch, bt x) ho
    have e : stp m 65286 x = { m with vol := bt x, tones := m.tones ++ [(m.cyc, m.pitch, bt x)] } := by simp [stp]
    rw [e]
    refine ⟨⟨_, _, _, hM.mono ?_⟩, t1.trans hT (fun _ f => f) (fun _ _ f => f)⟩
    intro i hi g
    rcases g with g | ⟨g1, g2⟩
    · exact .inl g
    · refine .inr ⟨Nat.le_trans t1.size g1, hi⟩
  have d6a : (w1.alloc (.cells #[.int .i64 m.cyc, .int .u16 m.pitch, .int .u8 (bt x)] 90)).cell? ⟨b, 19463, none⟩ = some tv := (World.cell?_of_block (w := w1) (Below.heap_alloc w1 _ b (lt_of h1.blk))).trans d6
  clear hW1 hw1 hbl hne h1 t1 hw hm
  go_region_law
    (refine step_append_row rfl (.tmp 51) (.tmp 62) 52 90 (.agg #[.int .i64 0, .int .u16 0, .int .u8 0]) 3 16 Try.underlying52 info90 rfl (by decide) rfl 0 tv m.tones.length (tc m.tones) (by simp [Act.eval]) hown (.slice (some ⟨w1.heap.size, 0, none⟩) 1 1) 1 (tcell (m.cyc, m.pitch, bt x)) (by simp [Act.eval]) hcs b1 b2 (Nat.zero_le _) ?_; intro v' w2 ho hg; obtain ⟨g9, cap9, rfl⟩ := own_pos ho (Nat.succ_pos m.tones.length); obtain ⟨f6, g6, hD⟩ := hend (.slice (some ⟨g9, 0, none⟩) (m.tones.length + 1) cap9) w2 ho hg; clear hend)
  all_goals
    go_wp2
    go_end0
    exact ⟨rfl, hD⟩
end Go.Proofs.Ytcmaccefjlgbfaa
