import Derived.Test.YtcmaccefjlgbfaaRMem
/-! The reference: Load. -/
namespace Go.Proofs.Ytcmaccefjlgbfaa
open Go.RowKit
open Go.Proofs
set_option linter.unusedVariables false
set_option linter.unusedSimpArgs false
set_option maxHeartbeats 2000000
set_option maxRecDepth 100000
theorem i64_id (z : Int) (h0 : 0 ≤ z) (h1 : z < 65536) : IntKind.i64.wrap z = z := by simp [IntKind.wrap, IntKind.bits, IntKind.signed]; omega
theorem rload_port (b : Nat) (z : Int) (h0 : 52224 ≤ z) (h1 : z < 65536) (w : World) {F : Nat → Prop} {m : MS} (hm : IsR w F b m) :
    Calls Try.prog 49 #[.pointer (some ⟨b, 0, none⟩), .int .u16 z] w fun e w' => e = .returned (.int .u8 (pt m z)) ∧ w' = w := by
  obtain ⟨hw, u, gr, gc, gs, tv, hm⟩ := hm
  have c3 := cell_of w b 3 _ 80 _ hm.blk rfl
  have c4 := cell_of w b 4 _ 80 _ hm.blk rfl
  have c5 := cell_of w b 5 _ 80 _ hm.blk rfl
  have c6 := cell_of w b 6 _ 80 _ hm.blk rfl
  have c7 := cell_of w b 7 _ 80 _ hm.blk rfl
  have w1 := hw.pitch0
  have w2 := hw.pitch1
  have w3 := hw.time0
  have w4 := hw.time1
  have e0 := i64_id z (by omega) h1
  have d1 : decide (z < 16384) = false := by simp; omega
  have d2 : decide (z < 32768) = false := by simp; omega
  have d3 : decide (z < 49152) = false := by simp; omega
  have d4 : decide (z < 52224) = false := by simp; omega
  have ep := u8_wrap m.pitch
  have et := u8_wrap m.time
  have hq1 : IntKind.u16.wrap (m.pitch.tdiv 256) = m.pitch / 256 := by rw [u16_wrap, Int.tdiv_eq_ediv_of_nonneg w1]; omega
  have hq2 : IntKind.u8.wrap (m.pitch / 256) = m.pitch / 256 := by rw [u8_wrap]; omega
  have hq3 : IntKind.u16.wrap (m.time.tdiv 256) = m.time / 256 := by rw [u16_wrap, Int.tdiv_eq_ediv_of_nonneg w3]; omega
  have hq4 : IntKind.u8.wrap (m.time / 256) = m.time / 256 := by rw [u8_wrap]; omega
  clear hm
  by_cases a0 : z = 65280
  · subst a0
    clear e0 d1 d2 d3 d4
    go_enter Try.func49, Try.ntmps49
    go_wp2
    go_ret
    exact ⟨by simp [pt], rfl⟩
  by_cases a1 : z = 65282
  · subst a1
    clear e0 d1 d2 d3 d4
    go_enter Try.func49, Try.ntmps49
    go_wp2
    go_ret
    exact ⟨by simp [pt], rfl⟩
  by_cases a2 : z = 65284
  · subst a2
    clear e0 d1 d2 d3 d4
    go_enter Try.func49, Try.ntmps49
    go_wp2
    go_ret
    exact ⟨by simp [pt], rfl⟩
  by_cases a3 : z = 65285
  · subst a3
    clear e0 d1 d2 d3 d4
    go_enter Try.func49, Try.ntmps49
    go_wp2
    go_ret
    exact ⟨by simp [pt], rfl⟩
  by_cases a4 : z = 65286
  · subst a4
    clear e0 d1 d2 d3 d4
    go_enter Try.func49, Try.ntmps49
    go_wp2
    go_ret
    exact ⟨by simp [pt], rfl⟩
  by_cases a5 : z = 65288
  · subst a5
    clear e0 d1 d2 d3 d4
    go_enter Try.func49, Try.ntmps49
    go_wp2
    go_ret
    exact ⟨by simp [pt], rfl⟩
  by_cases a6 : z = 65289
  · subst a6
    clear e0 d1 d2 d3 d4
    go_enter Try.func49, Try.ntmps49
    go_wp2
    go_ret
    exact ⟨by simp [pt], rfl⟩
  have f0 : (z == 65280) = false := by simpa using a0
  have f1 : (z == 65282) = false := by simpa using a1
  have f2 : (z == 65284) = false := by simpa using a2
  have f3 : (z == 65285) = false := by simpa using a3
  have f4 : (z == 65286) = false := by simpa using a4
  have f5 : (z == 65288) = false := by simpa using a5
  have f6 : (z == 65289) = false := by simpa using a6
  go_enter Try.func49, Try.ntmps49
  go_wp2
  go_ret
  exact ⟨by simp [pt, a0, a1, a2, a3, a4, a5, a6], rfl⟩
theorem rload_any (b : Nat) (z : Int) (h0 : 0 ≤ z) (h1 : z < 65536) (w : World) {F : Nat → Prop} {m : MS} (hm : IsR w F b m) :
    Calls Try.prog 49 #[.pointer (some ⟨b, 0, none⟩), .int .u16 z] w fun e w' => e = .returned (.int .u8 (ld m z)) ∧ Below w.heap.size w w' := by
  have e0 := i64_id z h0 h1
  by_cases a1 : z < 16384
  · have el : ld m z = 0 := by simp only [ld, a1, if_true]
    rw [el]
    have d1 : decide (z < 16384) = true := by simpa using a1
    go_enter Try.func49, Try.ntmps49
    go_wp2
    go_ret
    exact ⟨rfl, Below.refl _ _⟩
  have d1 : decide (z < 16384) = false := by simpa using a1
  by_cases a2 : z < 32768
  · obtain ⟨hw, u, gr, gc, gs, tv, h⟩ := hm
    have d2 : decide (z < 32768) = true := by simpa using a2
    have hbk := rbank_any b (inO m 16) w h hw.ch0 hw.ch1 (inO_len m 16)
    have hn : m.ch = (m.ch.toNat : Int) := by have := hw.ch0; omega
    have hch : m.ch.toNat < 16 := by have := hw.ch1; have := hw.ch0; omega
    have HEN : Hid (m.banks m.ch.toNat = none → ld m z = 0) := fun hnone => by simp only [ld, a1, a2, if_true, if_false, hnone]
    have HES : Hid (∀ l, m.banks m.ch.toNat = some l → ld m z = lb l (z - 16384).toNat) := fun l hbn => by simp only [ld, a1, a2, if_true, if_false, hbn]
    have HH : Hid _ := h
    clear h
    have q0 := eql_nil 35 5 Try.underlying35
    go_enter Try.func49, Try.ntmps49
    go_wp2_with fail
    refine hbk.mono ?_
    rintro e w2 ⟨hb2, hc⟩
    rcases hc with ⟨rfl, hno⟩ | ⟨i, t, g, hi, hg, ht, rfl⟩
    · have hnone : m.banks m.ch.toNat = none := by
        cases hb : m.banks m.ch.toNat with
        | none => rfl
        | some l => exact absurd (by rw [← hn]) (hno _ ((inO_mem m m.ch.toNat l 16).2 ⟨hch, hb⟩))
      have HE : Hid _ := HEN.out hnone
      clear hno hnone HEN HES
      go_wp2
      go_ret
      exact ⟨by rw [HE.out]; rfl, hb2⟩
    · have hmem : (((m.ch.toNat : Nat) : Int), t.2) ∈ inO m 16 := by
        have : t = (((m.ch.toNat : Nat) : Int), t.2) := by rw [← hn, ← ht]
        rw [← this]; exact List.mem_of_getElem? hi
      have hbn := ((inO_mem m m.ch.toNat t.2 16).1 hmem).2
      obtain ⟨x1, x2, x3, x4⟩ := HH.out.banks.dat i t g hi hg
      have hd5 := (hb2.block _ (lt_of x1)).trans x1
      obtain ⟨k, hk⟩ : ∃ k : Nat, z = k + 16384 := ⟨(z - 16384).toNat, by omega⟩
      have hkl : k < 16384 := by omega
      have hc := cell_of w2 g.1 k _ 5 _ hd5 ((bv_get t.2 _ _).2 ⟨_, lb_of t.2 k (by omega), rfl⟩)
      have el : ld m z = ((t.2.getD k 0).toNat : Int) := by
        rw [HES.out _ hbn, lb, show (z - 16384).toNat = k by omega]
      clear HEN HES
      have e1 : IntKind.i64.wrap (z - 16384) = (k : Int) := by rw [hk, show (k : Int) + 16384 - 16384 = (k : Int) by omega]; exact i64_id _ (by omega) (by omega)
      have i1 : (k : Int) < 16384 := by omega
      generalize ((t.2.getD k 0).toNat : Int) = y at *
      have HB : Hid _ := hb2
      have HE : Hid _ := el
      clear hmem hbn hi hg ht x1 x2 x3 x4 hd5 el hk hb2
      go_wp2
      go_ret
      exact ⟨by rw [HE.out]; rfl, HB.out⟩
  have d2 : decide (z < 32768) = false := by simpa using a2
  by_cases a3 : z < 49152
  · obtain ⟨hw, u, gr, gc, gs, tv, h⟩ := hm
    have d3 : decide (z < 49152) = true := by simpa using a3
    have el0 : ld m z = lb m.ram (z - 32768).toNat := by simp only [ld, a1, a2, a3, if_true, if_false]
    obtain ⟨k, rfl⟩ : ∃ k : Nat, z = k + 32768 := ⟨(z - 32768).toNat, by omega⟩
    have c1 := cell_of w b 1 _ 80 _ h.blk rfl
    have hc := cell_of w gr k _ 5 _ h.ram ((bv_get m.ram _ _).2 ⟨_, lb_of m.ram k (by rw [h.rl]; omega), rfl⟩)
    have el : ld m ((k : Int) + 32768) = ((m.ram.getD k 0).toNat : Int) := by
      rw [el0, lb, show ((k : Int) + 32768 - 32768).toNat = k by omega]
    clear el0
    rw [el]
    have e1 : IntKind.i64.wrap ((k : Int) + 32768 - 32768) = (k : Int) := by rw [show (k : Int) + 32768 - 32768 = (k : Int) by omega]; exact i64_id _ (by omega) (by omega)
    have i1 : (k : Int) < 16384 := by omega
    generalize ((m.ram.getD k 0).toNat : Int) = y at *
    clear h el
    go_enter Try.func49, Try.ntmps49
    go_wp2
    go_ret
    exact ⟨rfl, Below.refl _ _⟩
  have d3 : decide (z < 49152) = false := by simpa using a3
  by_cases a4 : z < 52224
  · obtain ⟨hw, u, gr, gc, gs, tv, h⟩ := hm
    have d4 : decide (z < 52224) = true := by simpa using a4
    have el0 : ld m z = lb m.scr (z - 49152).toNat := by simp only [ld, a1, a2, a3, a4, if_true, if_false]
    obtain ⟨k, rfl⟩ : ∃ k : Nat, z = k + 49152 := ⟨(z - 49152).toNat, by omega⟩
    have c1 := cell_of w b 2 _ 80 _ h.blk rfl
    have hc := cell_of w gc k _ 5 _ h.scr ((bv_get m.scr _ _).2 ⟨_, lb_of m.scr k (by rw [h.sl]; omega), rfl⟩)
    have el : ld m ((k : Int) + 49152) = ((m.scr.getD k 0).toNat : Int) := by
      rw [el0, lb, show ((k : Int) + 49152 - 49152).toNat = k by omega]
    clear el0
    rw [el]
    have e1 : IntKind.i64.wrap ((k : Int) + 49152 - 49152) = (k : Int) := by rw [show (k : Int) + 49152 - 49152 = (k : Int) by omega]; exact i64_id _ (by omega) (by omega)
    have i1 : (k : Int) < 3072 := by omega
    generalize ((m.scr.getD k 0).toNat : Int) = y at *
    clear h el
    go_enter Try.func49, Try.ntmps49
    go_wp2
    go_ret
    exact ⟨rfl, Below.refl _ _⟩
  have := rload_port b z (by omega) h1 w hm
  refine this.mono ?_
  rintro e w' ⟨rfl, rfl⟩
  exact ⟨by simp only [ld, a1, a2, a3, a4, if_false], Below.refl _ _⟩
theorem rcell_any (b : Nat) (z : Int) (h0 : 0 ≤ z) (h1 : z < 65536) (w : World) {F : Nat → Prop} {m : MS} (hm : IsR w F b m) :
    Calls Try.prog 50 #[.pointer (some ⟨b, 0, none⟩), .int .u16 z] w fun e w' => e = .returned (.int .u16 (cl m z)) ∧ Below w.heap.size w w' := by
  have hl := rload_any b z h0 h1 w hm
  have l1 := (ld_bound m hm.1 z)
  have l2 := (ld_bound m hm.1 ((z + 1) % 65536))
  have e1 := u16_wrap (z + 1)
  go_enter Try.func50, Try.ntmps50
  go_wp2_with fail
  refine hl.mono ?_
  rintro e w1 ⟨rfl, hb1⟩
  have hl2 := rload_any b ((z + 1) % 65536) (by omega) (by omega) w1 (hm.below hb1)
  go_wp2_with fail
  refine hl2.mono ?_
  rintro e w2 ⟨rfl, hb2⟩
  have e3 : ∀ y, IntKind.u16.wrap (ld m z + y) = (ld m z + y) % 65536 := fun y => u16_wrap _
  go_wp2
  go_ret
  refine ⟨congrArg Ending.returned (congrArg (Value.int .u16) ?_), hb1.trans (hb2.mono hb1.size)⟩
  unfold cl
  omega
end Go.Proofs.Ytcmaccefjlgbfaa
/-! The reference: Store and the calls upon it. -/
namespace Go.Proofs.Ytcmaccefjlgbfaa
open Go.RowKit
open Go.Proofs
set_option linter.unusedVariables false
set_option linter.unusedSimpArgs false
def RD (w w' : World) (F : Nat → Prop) (b : Nat) (m' : MS) : Prop := IsR w' (gr F w w') b m' ∧ Tc F w w'
theorem inO_congr {m m' : MS} (h : m'.banks = m.banks) (k : Nat) : inO m' k = inO m k := by unfold inO; rw [h]
theorem RD.same {w w2 : World} {F : Nat → Prop} {b : Nat} {m : MS} (h : IsR w F b m) (hb : Below w.heap.size w w2) : RD w w2 F b m :=
  ⟨(h.below hb).mono fun i _ f => .inl f, Tc.of_below hb fun i h1 h2 => by omega⟩
theorem RD.set {w w2 : World} {F : Nat → Prop} {b : Nat} {m' : MS} {u : Value} {gr' gc : Nat} {gs : List (Nat × Nat)} {tv : Value} (hb : Below w.heap.size w w2) (g i : Nat) (v : Value) (hg : F g) (wf : Wf m') (h : MemR (w2.setCell ⟨g, i, none⟩ v) F b (inO m' 16) m' u gr' gc gs tv) : RD w (w2.setCell ⟨g, i, none⟩ v) F b m' :=
  ⟨⟨wf, u, gr', gc, gs, tv, h.mono fun i _ f => .inl f⟩, ((Tc.of_below hb fun i h1 h2 => by omega).setCell g i hg v)⟩
theorem RD.next {w w1 w2 : World} {F : Nat → Prop} {b : Nat} {m1 m2 : MS} (h1 : RD w w1 F b m1) (h2 : RD w1 w2 (gr F w w1) b m2) : RD w w2 F b m2 := by
  refine ⟨h2.1.mono ?_, h1.2.trans h2.2 (fun _ f => f) ?_⟩
  · rintro i hi ((f | ⟨a, c⟩) | ⟨a, c⟩)
    · exact .inl f
    · exact .inr ⟨a, hi⟩
    · exact .inr ⟨Nat.le_trans h1.2.size a, c⟩
  · rintro i hi (f | ⟨a, c⟩)
    · exact f
    · omega
theorem MemR.tone {W W1 W2 : World} {F : Nat → Prop} {b : Nat} {bs : List (Int × List UInt8)} {m : MS} {u : Value} {gr' gc : Nat} {gs : List (Nat × Nat)} {tv tv' : Value} (h : MemR W F b bs m u gr' gc gs tv) (hb : Below W.heap.size W W1) (hg : Grew W1 W2 tv tv') (t : Int × Int × Int)
    (ho : W2.ownsRow 0 90 3 tv' (m.tones.length + 1) (tc m.tones ++ tcell t)) :
    MemR (W2.setCell ⟨b, 9, none⟩ tv') (gr F W W2) b bs { m with tones := m.tones ++ [t] } u gr' gc gs tv' ∧ Tc F W (W2.setCell ⟨b, 9, none⟩ tv') := by
  have k2 : ∀ k, k < W.heap.size → tv.ownBlock ≠ some k → W2.heap[k]? = W.heap[k]? := fun k hk hn => (hg.block k (Nat.lt_of_lt_of_le hk hb.size) (fun e => hn e.symm)).trans (hb.block k hk)
  have blk2 := (k2 b (lt_of h.blk) (fun e => h.nt b e rfl)).trans h.blk
  have hne : ∀ g, tv'.ownBlock = some g → g ≠ b := by
    intro g e c; subst c
    obtain ⟨cur, e2⟩ := own_block ho g e
    rw [blk2] at e2; simp at e2
  have k3 : ∀ k, k < W.heap.size → k ≠ b → tv.ownBlock ≠ some k → (W2.setCell ⟨b, 9, none⟩ tv').heap[k]? = W.heap[k]? := fun k hk h1 h2 => (setCell_other _ _ _ _ _ h1).trans (k2 k hk h2)
  refine ⟨⟨by rw [setCell_heap W2 b 9 _ 80 tv' blk2]; rfl, ⟨h.banks.len, own_kept h.banks.row fun g e hg2 => k3 g hg2 (h.nu g e) ?_, fun j t g a c => ?_, h.banks.nd⟩, ?_, ?_, h.rl, h.sl, ?_, h.nr, h.nc, h.rc, .inl h.fb, fun g e => .inl (h.fu g e), fun y hy => .inl (h.fg y hy), .inl h.fr, .inl h.fc, ?_⟩, ?_⟩
  · intro c
    obtain ⟨c1, e1⟩ := own_block h.banks.row g e
    obtain ⟨c2, e2⟩ := own_block h.tones g c
    rw [e1] at e2; simp at e2
  · obtain ⟨x1, x2, x3, x4⟩ := h.banks.dat j t g a c
    obtain ⟨n1, n2, n3⟩ := h.n5 _ _ x1
    exact ⟨(k3 _ (lt_of x1) n1 n3).trans x1, x2, x3, x4⟩
  · obtain ⟨n1, n2, n3⟩ := h.n5 _ _ h.ram
    exact (k3 _ (lt_of h.ram) n1 n3).trans h.ram
  · obtain ⟨n1, n2, n3⟩ := h.n5 _ _ h.scr
    exact (k3 _ (lt_of h.scr) n1 n3).trans h.scr
  · refine own_kept ?_ fun g e _ => setCell_other _ _ _ _ _ (hne g e)
    rw [tc_append]
    simpa [tc] using ho
  · intro g e
    rcases hg.own with c | c
    · exact .inl (h.ft g (c ▸ e))
    · exact .inr ⟨Nat.le_trans hb.size (c g e), (ho.lt g e).2⟩
  · refine ⟨hg.os.trans hb.os, hg.tape.trans hb.tape, hg.output.trans hb.output, by rw [setCell_size]; exact Nat.le_trans hb.size hg.size, fun k hk hn => ?_⟩
    exact (setCell_other _ _ _ _ _ (by rintro rfl; exact hn h.fb)).trans (k2 k hk (fun e => hn (h.ft k e)))
set_option maxHeartbeats 2000000
set_option maxRecDepth 100000
theorem rplay (b : Nat) (x : UInt8) (w : World) {F : Nat → Prop} {m : MS} (hm : IsR w F b m) (ht : m.tones.length ≤ 1000000) :
    Calls Try.prog 51 #[.pointer (some ⟨b, 0, none⟩), .int .u16 65286, .int .u8 (bt x)] w fun e w' => e = .returned (.tuple #[]) ∧ RD w w' F b (stp m 65286 x) := by
  obtain ⟨hw, u, gr', gc, gs, tv, hm⟩ := hm
  have c2 := cell_of w b 6 _ 80 _ hm.blk rfl
  have z2 := frozen_of w b 6 _ 80 hm.blk
  have hb := bt_bound x
  have h1 : MemR (w.setCell ⟨b, 6, none⟩ (.int .u8 (bt x))) F b (inO m 16) { m with vol := bt x } u gr' gc gs tv := hm.reg 6 _ _ (fun _ _ => rfl) rfl rfl rfl
  have hwf : Wf { m with vol := bt x, tones := m.tones ++ [(m.cyc, m.pitch, bt x)] } := ⟨hw.ram, hw.scr, hw.ch0, hw.ch1, hw.pad0, hw.pad1, hw.pitch0, hw.pitch1, hb.1, hb.2, hw.time0, hw.time1, hw.bk⟩
  obtain ⟨w1, hw1⟩ : ∃ w1, w1 = w.setCell ⟨b, 6, none⟩ (.int .u8 (bt x)) := ⟨_, rfl⟩
  have t1 : Tc F w w1 := by rw [hw1]; exact (Tc.refl F w).setCell b _ hm.fb _
  simp only [← hw1] at h1
  have d2 := cell_of w1 b 5 _ 80 _ h1.blk rfl
  have d5 := cell_of w1 b 8 _ 80 _ h1.blk rfl
  have d6 := cell_of w1 b 9 _ 80 _ h1.blk rfl
  have z6 := frozen_of w1 b 9 _ 80 h1.blk
  have e64 : IntKind.i64.wrap 65286 = 65286 := by decide
  go_enter Try.func51, Try.ntmps51
  go_wp2_with fail
  rw [← hw1]
  clear c2 z2
  obtain ⟨W1, hW1⟩ : ∃ W1, W1 = w1.drew.alloc (.cells #[.int .i64 m.cyc, .int .u16 m.pitch, .int .u8 (bt x)] 90) := ⟨_, rfl⟩
  have hbl : Below w1.heap.size w1 W1 := by rw [hW1]; exact ((Below.refl w1.heap.size w1).drew).alloc (Nat.le_refl _) _
  have hown : (w1.drew.alloc (.cells #[.int .i64 m.cyc, .int .u16 m.pitch, .int .u8 (bt x)] 90)).ownsRow 0 90 3 tv m.tones.length (tc m.tones) := by
    rw [← hW1]; exact own_kept h1.tones fun g _ hg => hbl.block g hg
  have hcs : Cs (w1.drew.alloc (.cells #[.int .i64 m.cyc, .int .u16 m.pitch, .int .u8 (bt x)] 90)) (.slice (some ⟨w1.heap.size, 0, none⟩) 1 1) 3 1 (tcell (m.cyc, m.pitch, bt x)) := by
    refine .inr ⟨⟨w1.heap.size, 0, none⟩, 1, rfl, rfl, ?_, tc_one [(m.cyc, m.pitch, bt x)]⟩
    intro j v hj
    have hn : (w1.drew.alloc (.cells #[.int .i64 m.cyc, .int .u16 m.pitch, .int .u8 (bt x)] 90)).heap[w1.heap.size]? = some (.cells (tcell (m.cyc, m.pitch, bt x)).toArray 90 (0, 0)) := heap_alloc_new w1.drew _
    have e : (⟨w1.heap.size, 0, none⟩ : Addr).add j = ⟨w1.heap.size, j, none⟩ := by unfold Addr.add; split <;> simp_all
    rw [e]
    exact cell_of _ _ _ _ 90 v hn hj
  have b1 : (m.tones.length + 1) * 16 ≤ room := by unfold room; omega
  have b2 : m.tones.length + 1 ≤ maxLen := by unfold maxLen; omega
  have hne : ∀ g, tv.ownBlock = some g → g ≠ b := fun g e => h1.nt g e
  have hend : ∀ v' w2, w2.ownsRow 0 90 3 v' (m.tones.length + 1) (tc m.tones ++ tcell (m.cyc, m.pitch, bt x)) → Grew (w1.drew.alloc (.cells #[.int .i64 m.cyc, .int .u16 m.pitch, .int .u8 (bt x)] 90)) w2 tv v' →
      w2.cell? ⟨b, 9, none⟩ = some tv ∧ w2.frozen? ⟨b, 9, none⟩ = false ∧ RD w (w2.setCell ⟨b, 9, none⟩ v') F b (stp m 65286 x) := by
    intro v' w2 ho hg
    rw [← hW1] at hg
    have hk : w2.heap[b]? = w1.heap[b]? := (hg.block b (Nat.lt_of_lt_of_le (lt_of h1.blk) hbl.size) (fun e => hne b e.symm rfl)).trans (hbl.block b (lt_of h1.blk))
    refine ⟨(World.cell?_of_block (w := w1) hk).trans d6, (World.frozen?_of_block (w := w1) hk).trans z6, ?_⟩
    obtain ⟨hM, hT⟩ := h1.tone hbl hg (m.cyc, m.pitch, bt x) ho
    have e : stp m 65286 x = { m with vol := bt x, tones := m.tones ++ [(m.cyc, m.pitch, bt x)] } := by simp [stp]
    rw [e]
    refine ⟨⟨hwf, _, _, _, _, _, hM.mono ?_⟩, t1.trans hT (fun _ f => f) (fun _ _ f => f)⟩
    intro i hi g
    rcases g with g | ⟨g1, g2⟩
    · exact .inl g
    · refine .inr ⟨Nat.le_trans t1.size g1, hi⟩
  have d6a : (w1.alloc (.cells #[.int .i64 m.cyc, .int .u16 m.pitch, .int .u8 (bt x)] 90)).cell? ⟨b, 9, none⟩ = some tv := (World.cell?_of_block (w := w1) (Below.heap_alloc w1 _ b (lt_of h1.blk))).trans d6
  clear hW1 hw1 hbl hne h1 t1 hw hm hwf
  go_region_law
    (refine step_append_row rfl (.tmp 96) (.tmp 107) 52 90 (.agg #[.int .i64 0, .int .u16 0, .int .u8 0]) 3 16 Try.underlying52 info90 rfl (by decide) rfl 0 tv m.tones.length (tc m.tones) (by simp [Act.eval]) hown (.slice (some ⟨w1.heap.size, 0, none⟩) 1 1) 1 (tcell (m.cyc, m.pitch, bt x)) (by simp [Act.eval]) hcs b1 b2 (Nat.zero_le _) ?_; intro v' w2 ho hg; obtain ⟨g9, cap9, rfl⟩ := own_pos ho (Nat.succ_pos m.tones.length); obtain ⟨f6, g6, hD⟩ := hend (.slice (some ⟨g9, 0, none⟩) (m.tones.length + 1) cap9) w2 ho hg; clear hend)
  all_goals
    go_wp2
    go_end0
    exact ⟨rfl, hD⟩
end Go.Proofs.Ytcmaccefjlgbfaa
