import Derived.Test.YtgponcjjnjpfkaaGreatMNew
/-! New, walked. -/
namespace Go.Proofs.YtgponcjjnjpfkaaGreat.M
open Go.RowKit
open Go.Proofs
open Go.ChangeMaps (setBlock)
set_option linter.unusedVariables false
set_option linter.unusedSimpArgs false
/-- Bytes with zeros behind them. -/
def pad (l : List UInt8) : List UInt8 := l ++ List.replicate (16384 - l.length) 0
theorem pad_len (l : List UInt8) (h : l.length ≤ 16384) : (pad l).length = 16384 := by rw [pad, List.length_append, List.length_replicate]; omega
theorem zero83_bv : zero83 = bv (List.replicate 16384 0) := by
  apply List.ext_getElem?
  intro i
  by_cases h : i < 16384
  · rw [zero83_get i h, (bv_get _ _ _).2 ⟨0, by rw [List.getElem?_replicate, if_pos h], rfl⟩]; rfl
  · rw [List.getElem?_eq_none (by rw [zero83_len]; omega), List.getElem?_eq_none (by rw [bv_len, List.length_replicate]; omega)]
theorem ents_append : ∀ (L : List (Nat × Nat)) (i n g : Nat), ents i (L ++ [(n, g)]) = ents i L ++ [{ key := .int .i64 (n : Int), val := .pointer (some ⟨g, 0, none⟩), born := i + L.length }]
  | [], i, n, g => rfl
  | (x, y) :: L, i, n, g => by
    simp only [ents, List.cons_append, ents_append L (i + 1) n g, List.length_cons]
    rw [show i + 1 + L.length = i + (L.length + 1) by omega]
/-- A bank is put into the map. -/
theorem run_put (W : World) (mb n g : Nat) (L : List (Nat × Nat)) (h : W.heap[mb]? = some (.map (ents 0 L).toArray L.length)) (hn : ∀ p ∈ L, p.1 ≠ n) :
    (Instr.mapUpdate 115 (.map (some mb)) (.int .i64 (n : Int)) (.pointer (some ⟨g, 0, none⟩))).run Tryz.prog W = .ok () (setBlock W mb (.map (ents 0 (L ++ [(n, g)])).toArray (L ++ [(n, g)]).length)) := by
  simp [Instr.mapUpdate, run_underlying Tryz.underlying115, getObj, setObj, Sem.run, h, checkKey_int, Instr.findKey, run_underlying Tryz.underlying3, find_none n L 0 0 hn, ents_append, setBlock]
theorem setBlock_same (W : World) (b : Nat) (o o' : Obj) (h : W.heap[b]? = some o') : (setBlock W b o).heap[b]? = some o := by
  have := lt_of h
  simp [setBlock, this]
theorem setBlock_other (W : World) (b k : Nat) (o : Obj) (h : k ≠ b) : (setBlock W b o).heap[k]? = W.heap[k]? := by
  simp only [setBlock, Array.getElem?_setIfInBounds]
  rw [if_neg (by omega)]
theorem setBlock_size (W : World) (b : Nat) (o : Obj) : (setBlock W b o).heap.size = W.heap.size := by simp [setBlock]
theorem Below.setBlock {B : Nat} {a w : World} (h : Below B a w) (g : Nat) (hg : B ≤ g) (o : Obj) : Below B a (setBlock w g o) :=
  ⟨h.os, h.tape, h.output, by rw [setBlock_size]; exact h.size, fun k hk => (setBlock_other w g k o (by omega)).trans (h.block k hk)⟩
/-- A memory with one bank more. -/
theorem MemP.add {W W1 : World} {F : Nat → Prop} {b : Nat} {m : MS} {mb : Nat} {L : List (Nat × Nat)} {tv : Value} (h : MemP W F b m mb L tv) (n g : Nat) (l : List UInt8) (hb : ∀ k, k < W.heap.size → W1.heap[k]? = W.heap[k]?)
    (hn : n < 16) (hm : m.banks n = none) (hl : l.length = 16384) (hg : W.heap.size ≤ g) (hF : F g) (hk : Bk W1 g l) :
    MemP (setBlock W1 mb (.map (ents 0 (L ++ [(n, g)])).toArray (L ++ [(n, g)]).length)) F b { m with banks := upd m.banks n l } mb (L ++ [(n, g)]) tv := by
  have hmb : W1.heap[mb]? = some (.map (ents 0 L).toArray L.length) := (hb mb (lt_of h.map)).trans h.map
  have hno : ∀ p ∈ L, p.1 ≠ n := by rintro p hp rfl; obtain ⟨l', e, _⟩ := h.bks p hp; rw [hm] at e; cases e
  have hlt : ∀ p ∈ L, p.2 < W.heap.size := fun p hp => by obtain ⟨l', _, e⟩ := h.bks p hp; exact lt_of e
  have hgm : g ≠ mb := by have := lt_of h.map; omega
  refine ⟨⟨h.wf.ram, h.wf.scr, h.wf.ch0, h.wf.ch1, h.wf.pad0, h.wf.pad1, h.wf.pitch0, h.wf.pitch1, h.wf.vol0, h.wf.vol1, h.wf.time0, h.wf.time1, ?_⟩, ?_, setBlock_same _ _ _ _ hmb, ?_, ?_, ?_, ?_, ?_, ?_, h.fb, h.fmb, ?_, h.ft⟩
  · intro k l' e
    simp only [upd] at e
    split at e
    · cases e; next c => subst c; exact ⟨hn, hl⟩
    · exact h.wf.bk k l' e
  · exact (setBlock_other _ _ _ _ h.ne_map.symm).trans ((hb b (lt_of h.blk)).trans h.blk)
  · rw [List.map_append, List.nodup_append]
    refine ⟨h.keys, by simp, ?_⟩
    intro a ha c hc e
    simp at hc ha
    obtain ⟨x, hx⟩ := ha
    exact hno _ hx (by simp; omega)
  · intro p hp
    rcases List.mem_append.1 hp with hp | hp
    · exact h.lt16 p hp
    · simp at hp; subst hp; exact hn
  · rw [List.map_append, List.nodup_append]
    refine ⟨h.blks, by simp, ?_⟩
    intro a ha c hc e
    simp at hc ha
    obtain ⟨x, hx⟩ := ha
    have := hlt _ hx
    simp at this
    omega
  · intro p hp
    rcases List.mem_append.1 hp with hp | hp
    · obtain ⟨l', e1, e2⟩ := h.bks p hp
      refine ⟨l', by simp only [upd, if_neg (hno p hp)]; exact e1, ?_⟩
      refine (setBlock_other _ _ _ _ (h.ne_bk_map p hp).symm).trans ((hb _ (lt_of e2)).trans e2)
    · simp at hp; subst hp
      exact ⟨l, by simp [upd], (setBlock_other _ _ _ _ hgm).trans hk⟩
  · intro k l' e
    simp only [upd] at e
    split at e
    · next c => subst c; exact ⟨g, by simp⟩
    · obtain ⟨y, hy⟩ := h.all k l' e; exact ⟨y, by simp [hy]⟩
  · exact own_kept h.tones fun k e hk2 => (setBlock_other _ _ _ _ (h.ne_t_map k e).symm).trans (hb k hk2)
  · intro p hp
    rcases List.mem_append.1 hp with hp | hp
    · exact h.fbk p hp
    · simp at hp; subst hp; exact hF
/-- The banks of New. -/
def nbk (bs : List (Int × List UInt8)) (k : Nat) : Option (List UInt8) := (bs.find? (fun t => t.1 == (k : Int))).map (fun t => pad t.2)
theorem Good.mono {bs : List (Int × List UInt8)} {k j : Nat} (h : Good bs k) (hj : j ≤ k) : Good bs j := fun i t hi ht => h i t (by omega) ht
theorem good_le (bs : List (Int × List UInt8)) : ∀ k, k ≤ bs.length → Good bs k → ∀ j t, j < k → bs[j]? = some t → t.1 ≤ ahead bs k ∧ -1 < t.1
  | 0, _, _, j, t, hj, _ => by omega
  | k + 1, hl, h, j, t, hj, ht => by
    have hk : k < bs.length := by omega
    have h2 := h k bs[k] (by omega) (List.getElem?_eq_getElem hk)
    have h3 : ahead bs (k + 1) = (bs[k]).1 := by simp [ahead, List.getD, List.getElem?_eq_getElem hk]
    by_cases e : j = k
    · subst e
      rw [List.getElem?_eq_getElem hk] at ht
      cases ht
      refine ⟨by omega, ?_⟩
      cases j with
      | zero => have := h2.1; simpa [ahead] using this
      | succ i =>
        have h5 := good_le bs (i + 1) (by omega) (h.mono (by omega)) i bs[i] (by omega) (List.getElem?_eq_getElem (by omega))
        omega
    · have h1 := good_le bs k (by omega) (h.mono (by omega)) j t (by omega) ht
      omega
theorem good_of (bs : List (Int × List UInt8)) (h : mayB (-1) bs = true) : ∀ k, k ≤ bs.length → Good bs k
  | 0, _ => fun j t hj => by omega
  | k + 1, hk => by
    have hG := good_of bs h k (by omega)
    have hM := mayB_at bs k hG (by omega)
    rw [h, List.drop_eq_getElem_cons (show k < bs.length by omega), mayB] at hM
    split at hM
    · cases hM
    · next c =>
      intro j t hj ht
      by_cases e : j = k
      · subst e; rw [List.getElem?_eq_getElem (by omega)] at ht; cases ht; omega
      · exact hG j t (by omega) ht
theorem nbk_step (bs : List (Int × List UInt8)) (k : Nat) (hk : k < bs.length) (hG : Good bs (k + 1)) :
    nbk (bs.take (k + 1)) = upd (nbk (bs.take k)) (bs[k]).1.toNat (pad (bs[k]).2) ∧ nbk (bs.take k) (bs[k]).1.toNat = none ∧ 0 ≤ (bs[k]).1 ∧ (bs[k]).1 < 16 ∧ (bs[k]).2.length ≤ 16384 := by
  have h2 := hG k bs[k] (by omega) (List.getElem?_eq_getElem hk)
  have h3 := good_le bs (k + 1) (by omega) hG k bs[k] (by omega) (List.getElem?_eq_getElem hk)
  have hno : ∀ t ∈ bs.take k, t.1 < (bs[k]).1 := by
    intro t ht
    obtain ⟨j, hj, e⟩ := List.mem_iff_getElem.1 ht
    rw [List.length_take] at hj
    rw [List.getElem_take] at e
    have := good_le bs k (by omega) (hG.mono (by omega)) j t (by omega) (by rw [List.getElem?_eq_getElem (by omega), e])
    omega
  refine ⟨?_, ?_, by omega, h2.2.1, h2.2.2⟩
  · funext x
    rw [List.take_succ_eq_append_getElem hk]
    unfold nbk upd
    rw [List.find?_append]
    by_cases e : x = (bs[k]).1.toNat
    · rw [if_pos e]
      have e2 : (bs.take k).find? (fun t => t.1 == (x : Int)) = none := by
        rw [List.find?_eq_none]; intro t ht c; simp at c; have := hno t ht; omega
      rw [e2]
      have e3 : ((bs[k]).1 == (x : Int)) = true := by simp; omega
      simp [e3]
    · rw [if_neg e]
      have e3 : ((bs[k]).1 == (x : Int)) = false := by simp; omega
      simp [e3]
  · unfold nbk
    have e2 : (bs.take k).find? (fun t => t.1 == (((bs[k]).1.toNat : Nat) : Int)) = none := by
      rw [List.find?_eq_none]; intro t ht c; simp at c; have := hno t ht; omega
    rw [e2]; rfl
theorem setRow_eq (W : World) (g : Nat) (c : List Value) (t : TypeId) (c' : List Value) (h : W.heap[g]? = some (.cells c.toArray t (0, 0))) : (W.setRow g c'.toArray).heap[g]? = some (.cells c'.toArray t (0, 0)) := setRow_heap W g _ _ t _ h
/-- The bytes of a bank are copied into a new array. -/
theorem run_copy_bank (W : World) (g : Nat) (dv : Value) (l : List UInt8) (ty : TypeId) (hg : W.heap[g]? = some (.cells zero83.toArray 116 (0, 0))) (hs : Sl W dv l) (hl : l.length ≤ 16384) (B : Nat) (W0 : World) (hB : Below B W0 W) (hBg : B ≤ g) :
    ∃ W', (Builtin.copy_ #[80, 80] ty #[.slice (some ⟨g, 0, none⟩) 16384 16384, dv]).run Tryz.prog W = .ok (.int .i64 (l.length : Int)) W' ∧ Bk W' g (pad l) ∧ Below B W0 W' ∧ (∀ k, k ≠ g → W'.heap[k]? = W.heap[k]?) ∧ W'.heap.size = W.heap.size := by
  have hi5 : (Tryz.prog.info? 5).map (·.size) = some 1 := by kernel_rfl
  rcases hs with ⟨rfl, rfl⟩ | ⟨x, c, rfl, hc, hcell⟩
  · refine ⟨W, run_copy_nil (P := Tryz.prog) W 80 80 ty 5 _ _ _ Tryz.underlying80 (by rw [hi5]; rfl), ?_, hB, fun _ _ => rfl, rfl⟩
    unfold Bk pad
    rw [hg, zero83_bv]; simp only [List.nil_append, List.length_nil]
  · have hr := run_copy_row (P := Tryz.prog) W 80 80 ty 5 g 0 16384 16384 x l.length c zero83.toArray 116 (bv l) Tryz.underlying80 hi5 hg (by rw [bv_len]; exact (Nat.min_eq_left hl).symm)
      (fun j v hj => by obtain ⟨b, hb, rfl⟩ := (bv_get l j v).1 hj; exact hcell j b hb) (by rw [bv_len, List.size_toArray, zero83_len]; omega) (bv_one l)
    rw [bv_len] at hr
    refine ⟨_, hr, ?_, ?_, fun k hk => ?_, ?_⟩
    · unfold Bk
      rw [setRow_eq W g zero83 116 _ hg]
      have e : List.take 0 zero83 ++ bv l ++ List.drop (0 + (bv l).length) zero83 = bv (pad l) := by
        rw [zero83_bv]
        simp only [List.take_zero, List.nil_append, bv_len, Nat.zero_add, pad, bv_append]
        have e2 : ∀ n : Nat, List.drop l.length (bv (List.replicate n 0)) = bv (List.replicate (n - l.length) 0) := fun n => by simp only [bv, List.map_replicate, List.drop_replicate]
        rw [e2]
      rw [bv_len] at e
      exact congrArg (fun q : List Value => some (Obj.cells q.toArray 116 (0, 0))) e
    · exact ⟨hB.os, hB.tape, hB.output, by rw [size_setRow]; exact hB.size, fun k hk => (setRow_other W g k _ (by omega)).trans (hB.block k hk)⟩
    · exact setRow_other W g k _ hk
    · exact size_setRow _ _ _
set_option maxHeartbeats 1000000
set_option maxRecDepth 100000
theorem wpList_build86 {ops : Array Oper} {rest : List Oper} {o : Oper} {a : Act} {w : World} {Q : Exit → Act → World → Prop} (hg : o.guard = none) (x : Operand) (ho : o.op = .build 119 #[(0, x)]) (mb : Nat) (hm : a.eval x = .map (some mb))
    (h : wpList Tryz.prog ops Q rest (a.put o.dst (.agg (mcells mb m0 (.slice none 0 0)).toArray)) w) : wpList Tryz.prog ops Q (o :: rest) a w :=
  wpList_plain hg fun _ hK => by
    unfold Oper.wp execOp
    have e := build86 w mb
    simp only [ho, List.map_toArray, List.map_cons, List.map_nil, hm, Sem.run_bind, e, Result.andThen_ok]
    exact hK _ _ h
theorem new_no (p : Option Addr) (c : Nat) (bs : List (Int × List UInt8)) (hl : bs.length ≤ room) (w : World) (h : BnS w p bs) (hm : mayB (-1) bs = false) :
    Calls Tryz.prog 43 #[.slice p bs.length c] w fun e w' => e = .returned (.tuple #[.pointer none, .int .i64 2]) ∧ Below w.heap.size w w' := by
  have hmb := mayBe_any p c bs hl w h
  rw [hm] at hmb
  go_enter Tryz.func43, Tryz.ntmps43
  go_wp2_with fail
  refine hmb.mono ?_
  rintro e w1 ⟨rfl, hB⟩
  go_wp2
  go_ret2
  exact ⟨rfl, hB⟩
theorem new_yes (p : Option Addr) (c : Nat) (bs : List (Int × List UInt8)) (hl : bs.length ≤ room) (w : World) (h : BnS w p bs) (hm : mayB (-1) bs = true) :
    Calls Tryz.prog 43 #[.slice p bs.length c] w fun e w' => ∃ b, e = .returned (.tuple #[.pointer (some ⟨b, 0, none⟩), .int .i64 0]) ∧ HasM w' (fun k => w.heap.size ≤ k) b { m0 with banks := nbk bs } ∧ Below w.heap.size w w' := by
  have hmb := mayBe_any p c bs hl w h
  have hGd := good_of bs hm bs.length (Nat.le_refl _)
  rw [hm] at hmb
  unfold room at hl
  have z83 := zc83 w
  go_enter Tryz.func43, Tryz.ntmps43
  go_wp2_with fail
  refine hmb.mono ?_
  rintro e w1 ⟨rfl, hB⟩
  clear hmb hm
  have hmm := @run_makeMap Tryz.prog
  obtain ⟨mb, hmbq⟩ : ∃ mb, mb = w1.heap.size := ⟨_, rfl⟩
  have hwm : w.heap.size ≤ mb := by rw [hmbq]; exact hB.size
  have hM0 : MemP ((w1.alloc (.map #[] 0)).alloc (.cells (mcells mb m0 (.slice none 0 0)).toArray 119)) (fun k => w.heap.size ≤ k) (mb + 1) { m0 with banks := nbk (bs.take 0) } mb [] (.slice none 0 0) := by
    have hs1 : (w1.alloc (.map #[] 0)).heap.size = mb + 1 := by simp [hmbq]
    refine ⟨⟨m0_wf.ram, m0_wf.scr, m0_wf.ch0, m0_wf.ch1, m0_wf.pad0, m0_wf.pad1, m0_wf.pitch0, m0_wf.pitch1, m0_wf.vol0, m0_wf.vol1, m0_wf.time0, m0_wf.time1, by intro n l e; simp [nbk] at e⟩, ?_, ?_, by simp, by simp, by simp, by simp, by intro n l e; simp [nbk] at e, World.ownsRow_nil _ _ _ _, Nat.le_succ_of_le hwm, hwm, by simp, by simp [Value.ownBlock]⟩
    · rw [← hs1]; exact heap_alloc_new _ _
    · rw [Below.heap_alloc _ _ mb (by omega), hmbq]; exact heap_alloc_new w1 _
  have hB0 : Below w.heap.size w ((w1.alloc (.map #[] 0)).alloc (.cells (mcells mb m0 (.slice none 0 0)).toArray 119)) := (hB.alloc hB.size _).alloc (by have := hB.size; simp; omega) _
  have HM0 : Hid _ := hM0
  have HB0 : Hid _ := hB0
  clear hM0 hB0
  go_wp2_with (first | (refine wpList_build86 rfl (.tmp 11) rfl w1.heap.size (by simp [Act.eval]) ?_))
  rw [← hmbq] at *
  go_loopw [16] (fun i wr => ∃ (k : Nat) (L : List (Nat × Nat)), k ≤ bs.length ∧ i = .int .i64 (k : Int) ∧ MemP wr (fun k => w.heap.size ≤ k) (mb + 1) { m0 with banks := nbk (bs.take k) } mb L (.slice none 0 0) ∧ Below w.heap.size w wr) (fun i _ => bs.length - (intOf i).toNat)
  case atStart => exact ⟨0, [], by omega, rfl, HM0.out, HB0.out⟩
  case round =>
    clear HM0 HB0
    obtain ⟨k, L, hk, rfl, hM, hB⟩ := hrel
    by_cases hlt : k < bs.length
    · have i1 : (k : Int) < bs.length := by omega
      obtain ⟨b, o, dv, rfl, e1, e2, e3, e4⟩ := h.below hB k bs[k] (List.getElem?_eq_getElem hlt)
      obtain ⟨q1, q2, q3, q4, q5⟩ := nbk_step bs k hlt (hGd.mono (by omega))
      obtain ⟨n, hn⟩ : ∃ n : Nat, (bs[k]).1 = (n : Int) := ⟨(bs[k]).1.toNat, by omega⟩
      rw [hn] at e1 q1 q2 q4
      simp only [Int.toNat_natCast] at q1 q2
      generalize (bs[k]).2 = l at *
      obtain ⟨W1, hW1⟩ : ∃ W1, W1 = wr.alloc (.cells #[.int .i64 (n : Int), dv] 82) := ⟨_, rfl⟩
      obtain ⟨g, hgq⟩ : ∃ g, g = W1.heap.size := ⟨_, rfl⟩
      obtain ⟨W2, hW2⟩ : ∃ W2, W2 = (W1.alloc (.cells zero83.toArray 116)).drew := ⟨_, rfl⟩
      have hws : w.heap.size ≤ wr.heap.size := hB.size
      have hs1 : W1.heap.size = wr.heap.size + 1 := by rw [hW1]; simp
      have hB1 : Below w.heap.size w W1 := by rw [hW1]; exact hB.alloc hB.size _
      have hB2 : Below w.heap.size w W2 := by rw [hW2]; exact (hB1.alloc hB1.size _).drew
      have hg2 : W2.heap[g]? = some (.cells zero83.toArray 116 (0, 0)) := by rw [hW2, hgq]; exact heap_alloc_new W1 _
      have hb12 : Below wr.heap.size wr W2 := by rw [hW2, hW1]; exact (((Below.refl _ wr).alloc (Nat.le_refl _) _).alloc (by simp) _).drew
      have hv2 : W2.heap[wr.heap.size]? = some (.cells [.int .i64 (n : Int), dv].toArray 82 (0, 0)) := by
        rw [hW2, hW1]; exact (Below.heap_alloc _ _ _ (by simp)).trans (heap_alloc_new wr _)
      obtain ⟨W3, hcp, hk3, hB3, hst3, hsz3⟩ := run_copy_bank W2 g dv l 3 hg2 (e3.below hb12) q5 w.heap.size w hB2 (by omega)
      have hv3 : W3.heap[wr.heap.size]? = some (.cells [.int .i64 (n : Int), dv].toArray 82 (0, 0)) := (hst3 _ (by omega)).trans hv2
      have hold : ∀ j, j < wr.heap.size → W3.heap[j]? = wr.heap[j]? := fun j hj => (hst3 j (by omega)).trans (hb12.block j hj)
      have c0 := cell_of W3 (mb + 1) 0 _ 119 _ ((hold _ (lt_of hM.blk)).trans hM.blk) (mcells_0 mb _ _)
      have cv0 := cell_of W3 wr.heap.size 0 _ 82 _ hv3 rfl
      have hput := run_put W3.drew mb n g L ((hold _ (lt_of hM.map)).trans hM.map) (by rintro p hp rfl; obtain ⟨l', e, _⟩ := hM.bks p hp; have e2 : nbk (bs.take k) p.1 = some l' := e; rw [q2] at e2; cases e2)
      have hM4 := hM.add n g (pad l) (W1 := W3.drew) hold (by omega) q2 (pad_len l q5) (by omega) (show w.heap.size ≤ g by omega) hk3
      have hB4 : Below w.heap.size w (setBlock W3.drew mb (.map (ents 0 (L ++ [(n, g)])).toArray (L ++ [(n, g)]).length)) := Below.setBlock hB3.drew mb hwm _
      generalize setBlock W3.drew mb (.map (ents 0 (L ++ [(n, g)])).toArray (L ++ [(n, g)]).length) = W4 at *
      have hM5 : MemP W4 (fun k => w.heap.size ≤ k) (mb + 1) { m0 with banks := nbk (bs.take (k + 1)) } mb (L ++ [(n, g)]) (.slice none 0 0) := by rw [q1]; exact hM4
      have HM : Hid _ := hM5
      have HB : Hid _ := hB4
      obtain ⟨dp, dc, rfl, _⟩ := e3.ex
      subst hW2 hW1
      rw [hs1] at hgq
      subst hgq
      clear hM hM4 hM5 hB4 hB3 hB2 hB1 hb12 hk3 hst3 hsz3 hv3 hv2 hold q1 q2 hg2 e3 hB hs1
      go_wp2_with fail
      go_region
      go_wp2_with fail
      go_region
      go_wp2
      go_roundw
      case rel =>
        first
          | exact ⟨k + 1, _, by omega, by go_num, HM.out, HB.out⟩
          | ((repeat apply Exists.intro); refine ⟨⟨k + 1, _, by omega, ?_, HM.out, HB.out⟩, rfl⟩; go_num)
      case measure => simp [intOf]; omega
    · obtain rfl : k = bs.length := by omega
      rw [List.take_length] at hM
      go_wp2
      go_ret2
      exact ⟨_, rfl, ⟨_, _, _, hM⟩, hB⟩
end Go.Proofs.YtgponcjjnjpfkaaGreat.M
