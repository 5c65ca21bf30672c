import Derived.Test.YtgponcjjnjpfkabGreatG2
import Derived.Test.YtgponcjjnjpfkabGreatProg
import Derived.WalkKit
import Derived.WalkSpells
import Derived.WalkLawsBesides
/-! New, walked. -/
namespace Go.Proofs.YtgponcjjnjpfkabGreat.M
open Go.RowKit
open Go.Proofs
open Go.ChangeMaps (setBlock)
set_option linter.unusedVariables false
set_option linter.unusedSimpArgs false
/-- Bytes with zeros behind them. -/
def pad (l : List UInt8) : List UInt8 := l ++ List.replicate (16384 - l.length) 0
theorem pad_len (l : List UInt8) (h : l.length ≤ 16384) : (pad l).length = 16384 := by rw [pad, List.length_append, List.length_replicate]; omega
theorem zero83_bv : zero83 = bv (List.replicate 16384 0) := by
  apply List.ext_getElem?
  intro i
  by_cases h : i < 16384
  · rw [zero83_get i h, (bv_get _ _ _).2 ⟨0, by rw [List.getElem?_replicate, if_pos h], rfl⟩]; rfl
  · rw [List.getElem?_eq_none (by rw [zero83_len]; omega), List.getElem?_eq_none (by rw [bv_len, List.length_replicate]; omega)]
theorem ents_append : ∀ (L : List (Nat × Nat)) (i n g : Nat), ents i (L ++ [(n, g)]) = ents i L ++ [{ key := .int .i64 (n : Int), val := .pointer (some ⟨g, 0, none⟩), born := i + L.length }]
  | [], i, n, g => rfl
  | (x, y) :: L, i, n, g => by
    simp only [ents, List.cons_append, ents_append L (i + 1) n g, List.length_cons]
    rw [show i + 1 + L.length = i + (L.length + 1) by omega]
/-- A bank is put into the map. -/
theorem run_put (W : World) (mb n g : Nat) (L : List (Nat × Nat)) (h : W.heap[mb]? = some (.map (ents 0 L).toArray L.length)) (hn : ∀ p ∈ L, p.1 ≠ n) :
    (Instr.mapUpdate 100 (.map (some mb)) (.int .i64 (n : Int)) (.pointer (some ⟨g, 0, none⟩))).run Tryz.prog W = .ok () (setBlock W mb (.map (ents 0 (L ++ [(n, g)])).toArray (L ++ [(n, g)]).length)) := by
  simp [Instr.mapUpdate, run_underlying Tryz.underlying100, getObj, setObj, Sem.run, h, checkKey_int, Instr.findKey, run_underlying Tryz.underlying3, find_none n L 0 0 hn, ents_append, setBlock]
theorem setBlock_same (W : World) (b : Nat) (o o' : Obj) (h : W.heap[b]? = some o') : (setBlock W b o).heap[b]? = some o := by
  have := lt_of h
  simp [setBlock, this]
theorem setBlock_other (W : World) (b k : Nat) (o : Obj) (h : k ≠ b) : (setBlock W b o).heap[k]? = W.heap[k]? := by
  simp only [setBlock, Array.getElem?_setIfInBounds]
  rw [if_neg (by omega)]
theorem setBlock_size (W : World) (b : Nat) (o : Obj) : (setBlock W b o).heap.size = W.heap.size := by simp [setBlock]
theorem Below.setBlock {B : Nat} {a w : World} (h : Below B a w) (g : Nat) (hg : B ≤ g) (o : Obj) : Below B a (setBlock w g o) :=
  ⟨h.os, h.tape, h.output, by rw [setBlock_size]; exact h.size, fun k hk => (setBlock_other w g k o (by omega)).trans (h.block k hk)⟩
/-- A memory with one bank more. -/
theorem MemP.add {W W1 : World} {F : Nat → Prop} {b : Nat} {m : MS} {mb : Nat} {L : List (Nat × Nat)} {tv : Value} (h : MemP W F b m mb L tv) (n g : Nat) (l : List UInt8) (hb : ∀ k, k < W.heap.size → W1.heap[k]? = W.heap[k]?)
    (hn : n < 16) (hm : m.banks n = none) (hl : l.length = 16384) (hg : W.heap.size ≤ g) (hF : F g) (hk : Bk W1 g l) :
    MemP (setBlock W1 mb (.map (ents 0 (L ++ [(n, g)])).toArray (L ++ [(n, g)]).length)) F b { m with banks := upd m.banks n l } mb (L ++ [(n, g)]) tv := by
  have hmb : W1.heap[mb]? = some (.map (ents 0 L).toArray L.length) := (hb mb (lt_of h.map)).trans h.map
  have hno : ∀ p ∈ L, p.1 ≠ n := by rintro p hp rfl; obtain ⟨l', e, _⟩ := h.bks p hp; rw [hm] at e; cases e
  have hlt : ∀ p ∈ L, p.2 < W.heap.size := fun p hp => by obtain ⟨l', _, e⟩ := h.bks p hp; exact lt_of e
  have hgm : g ≠ mb := by have := lt_of h.map; omega
  refine ⟨⟨h.wf.ram, h.wf.scr, h.wf.ch0, h.wf.ch1, h.wf.pad0, h.wf.pad1, h.wf.pitch0, h.wf.pitch1, h.wf.vol0, h.wf.vol1, h.wf.time0, h.wf.time1, ?_⟩, ?_, setBlock_same _ _ _ _ hmb, ?_, ?_, ?_, ?_, ?_, ?_, h.fb, h.fmb, ?_, h.ft⟩
  · intro k l' e
    simp only [upd] at e
    split at e
    · cases e; next c => subst c; exact ⟨hn, hl⟩
    · exact h.wf.bk k l' e
  · exact (setBlock_other _ _ _ _ h.ne_map.symm).trans ((hb b (lt_of h.blk)).trans h.blk)
  · rw [List.map_append, List.nodup_append]
    refine ⟨h.keys, by simp, ?_⟩
    intro a ha c hc e
    simp at hc ha
    obtain ⟨x, hx⟩ := ha
    exact hno _ hx (by simp; omega)
  · intro p hp
    rcases List.mem_append.1 hp with hp | hp
    · exact h.lt16 p hp
    · simp at hp; subst hp; exact hn
  · rw [List.map_append, List.nodup_append]
    refine ⟨h.blks, by simp, ?_⟩
    intro a ha c hc e
    simp at hc ha
    obtain ⟨x, hx⟩ := ha
    have := hlt _ hx
    simp at this
    omega
  · intro p hp
    rcases List.mem_append.1 hp with hp | hp
    · obtain ⟨l', e1, e2⟩ := h.bks p hp
      refine ⟨l', by simp only [upd, if_neg (hno p hp)]; exact e1, ?_⟩
      refine (setBlock_other _ _ _ _ (h.ne_bk_map p hp).symm).trans ((hb _ (lt_of e2)).trans e2)
    · simp at hp; subst hp
      exact ⟨l, by simp [upd], (setBlock_other _ _ _ _ hgm).trans hk⟩
  · intro k l' e
    simp only [upd] at e
    split at e
    · next c => subst c; exact ⟨g, by simp⟩
    · obtain ⟨y, hy⟩ := h.all k l' e; exact ⟨y, by simp [hy]⟩
  · exact own_kept h.tones fun k e hk2 => (setBlock_other _ _ _ _ (h.ne_t_map k e).symm).trans (hb k hk2)
  · intro p hp
    rcases List.mem_append.1 hp with hp | hp
    · exact h.fbk p hp
    · simp at hp; subst hp; exact hF
/-- The banks of New. -/
def nbk (bs : List (Int × List UInt8)) (k : Nat) : Option (List UInt8) := (bs.find? (fun t => t.1 == (k : Int))).map (fun t => pad t.2)
theorem Good.mono {bs : List (Int × List UInt8)} {k j : Nat} (h : Good bs k) (hj : j ≤ k) : Good bs j := fun i t hi ht => h i t (by omega) ht
theorem good_le (bs : List (Int × List UInt8)) : ∀ k, k ≤ bs.length → Good bs k → ∀ j t, j < k → bs[j]? = some t → t.1 ≤ ahead bs k ∧ -1 < t.1
  | 0, _, _, j, t, hj, _ => by omega
  | k + 1, hl, h, j, t, hj, ht => by
    have hk : k < bs.length := by omega
    have h2 := h k bs[k] (by omega) (List.getElem?_eq_getElem hk)
    have h3 : ahead bs (k + 1) = (bs[k]).1 := by simp [ahead, List.getD, List.getElem?_eq_getElem hk]
    by_cases e : j = k
    · subst e
      rw [List.getElem?_eq_getElem hk] at ht
      cases ht
      refine ⟨by omega, ?_⟩
      cases j with
      | zero => have := h2.1; simpa [ahead] using this
      | succ i =>
        have h5 := good_le bs (i + 1) (by omega) (h.mono (by omega)) i bs[i] (by omega) (List.getElem?_eq_getElem (by omega))
        omega
    · have h1 := good_le bs k (by omega) (h.mono (by omega)) j t (by omega) ht
      omega
theorem good_of (bs : List (Int × List UInt8)) (h : mayB (-1) bs = true) : ∀ k, k ≤ bs.length → Good bs k
  | 0, _ => fun j t hj => by omega
  | k + 1, hk => by
    have hG := good_of bs h k (by omega)
    have hM := mayB_at bs k hG (by omega)
    rw [h, List.drop_eq_getElem_cons (show k < bs.length by omega), mayB] at hM
    split at hM
    · cases hM
    · next c =>
      intro j t hj ht
      by_cases e : j = k
      · subst e; rw [List.getElem?_eq_getElem (by omega)] at ht; cases ht; omega
      · exact hG j t (by omega) ht
theorem nbk_step (bs : List (Int × List UInt8)) (k : Nat) (hk : k < bs.length) (hG : Good bs (k + 1)) :
    nbk (bs.take (k + 1)) = upd (nbk (bs.take k)) (bs[k]).1.toNat (pad (bs[k]).2) ∧ nbk (bs.take k) (bs[k]).1.toNat = none ∧ 0 ≤ (bs[k]).1 ∧ (bs[k]).1 < 16 ∧ (bs[k]).2.length ≤ 16384 := by
  have h2 := hG k bs[k] (by omega) (List.getElem?_eq_getElem hk)
  have h3 := good_le bs (k + 1) (by omega) hG k bs[k] (by omega) (List.getElem?_eq_getElem hk)
  have hno : ∀ t ∈ bs.take k, t.1 < (bs[k]).1 := by
    intro t ht
    obtain ⟨j, hj, e⟩ := List.mem_iff_getElem.1 ht
    rw [List.length_take] at hj
    rw [List.getElem_take] at e
    have := good_le bs k (by omega) (hG.mono (by omega)) j t (by omega) (by rw [List.getElem?_eq_getElem (by omega), e])
    omega
  refine ⟨?_, ?_, by omega, h2.2.1, h2.2.2⟩
  · funext x
    rw [List.take_succ_eq_append_getElem hk]
    unfold nbk upd
    rw [List.find?_append]
    by_cases e : x = (bs[k]).1.toNat
    · rw [if_pos e]
      have e2 : (bs.take k).find? (fun t => t.1 == (x : Int)) = none := by
        rw [List.find?_eq_none]; intro t ht c; simp at c; have := hno t ht; omega
      rw [e2]
      have e3 : ((bs[k]).1 == (x : Int)) = true := by simp; omega
      simp [e3]
    · rw [if_neg e]
      have e3 : ((bs[k]).1 == (x : Int)) = false := by simp; omega
      simp [e3]
  · unfold nbk
    have e2 : (bs.take k).find? (fun t => t.1 == (((bs[k]).1.toNat : Nat) : Int)) = none := by
      rw [List.find?_eq_none]; intro t ht c; simp at c; have := hno t ht; omega
    rw [e2]; rfl
theorem setRow_eq (W : World) (g : Nat) (c : List Value) (t : TypeId) (c' : List Value) (h : W.heap[g]? = some (.cells c.toArray t (0, 0))) : (W.setRow g c'.toArray).heap[g]? = some (.cells c'.toArray t (0, 0)) := setRow_heap W g _ _ t _ h
/-- The bytes of a bank are copied into a new array. -/
theorem run_copy_bank (W : World) (g : Nat) (dv : Value) (l : List UInt8) (ty : TypeId) (hg : W.heap[g]? = some (.cells zero83.toArray 101 (0, 0))) (hs : Sl W dv l) (hl : l.length ≤ 16384) (B : Nat) (W0 : World) (hB : Below B W0 W) (hBg : B ≤ g) :
    ∃ W', (Builtin.copy_ #[51, 51] ty #[.slice (some ⟨g, 0, none⟩) 16384 16384, dv]).run Tryz.prog W = .ok (.int .i64 (l.length : Int)) W' ∧ Bk W' g (pad l) ∧ Below B W0 W' ∧ (∀ k, k ≠ g → W'.heap[k]? = W.heap[k]?) ∧ W'.heap.size = W.heap.size := by
  have hi5 : (Tryz.prog.info? 5).map (·.size) = some 1 := by kernel_rfl
  rcases hs with ⟨rfl, rfl⟩ | ⟨x, c, rfl, hc, hcell⟩
  · refine ⟨W, run_copy_nil (P := Tryz.prog) W 51 51 ty 5 _ _ _ Tryz.underlying51 (by rw [hi5]; rfl), ?_, hB, fun _ _ => rfl, rfl⟩
    unfold Bk pad
    rw [hg, zero83_bv]; simp only [List.nil_append, List.length_nil]
  · have hr := run_copy_row (P := Tryz.prog) W 51 51 ty 5 g 0 16384 16384 x l.length c zero83.toArray 101 (bv l) Tryz.underlying51 hi5 hg (by rw [bv_len]; exact (Nat.min_eq_left hl).symm)
      (fun j v hj => by obtain ⟨b, hb, rfl⟩ := (bv_get l j v).1 hj; exact hcell j b hb) (by rw [bv_len, List.size_toArray, zero83_len]; omega) (bv_one l)
    rw [bv_len] at hr
    refine ⟨_, hr, ?_, ?_, fun k hk => ?_, ?_⟩
    · unfold Bk
      rw [setRow_eq W g zero83 101 _ hg]
      have e : List.take 0 zero83 ++ bv l ++ List.drop (0 + (bv l).length) zero83 = bv (pad l) := by
        rw [zero83_bv]
        simp only [List.take_zero, List.nil_append, bv_len, Nat.zero_add, pad, bv_append]
        have e2 : ∀ n : Nat, List.drop l.length (bv (List.replicate n 0)) = bv (List.replicate (n - l.length) 0) := fun n => by simp only [bv, List.map_replicate, List.drop_replicate]
        rw [e2]
      rw [bv_len] at e
      exact congrArg (fun q : List Value => some (Obj.cells q.toArray 101 (0, 0))) e
    · exact ⟨hB.os, hB.tape, hB.output, by rw [size_setRow]; exact hB.size, fun k hk => (setRow_other W g k _ (by omega)).trans (hB.block k hk)⟩
    · exact setRow_other W g k _ hk
    · exact size_setRow _ _ _
set_option maxHeartbeats 1000000
set_option maxRecDepth 100000
theorem wpList_build86 {ops : Array Oper} {rest : List Oper} {o : Oper} {a : Act} {w : World} {Q : Exit → Act → World → Prop} (hg : o.guard = none) (x : Operand) (ho : o.op = .build 104 #[(0, x)]) (mb : Nat) (hm : a.eval x = .map (some mb))
    (h : wpList Tryz.prog ops Q rest (a.put o.dst (.agg (mcells mb m0 (.slice none 0 0)).toArray)) w) : wpList Tryz.prog ops Q (o :: rest) a w :=
  wpList_plain hg fun _ hK => by
    unfold Oper.wp execOp
    have e := build86 w mb
    simp only [ho, List.map_toArray, List.map_cons, List.map_nil, hm, Sem.run_bind, e, Result.andThen_ok]
    exact hK _ _ h
theorem new_no (p : Option Addr) (c : Nat) (bs : List (Int × List UInt8)) (hl : bs.length ≤ room) (w : World) (h : BnS w p bs) (hm : mayB (-1) bs = false) :
    Calls Tryz.prog 27 #[.slice p bs.length c] w fun e w' => e = .returned (.tuple #[.pointer none, .int .i64 2]) ∧ Below w.heap.size w w' := by
  have hmb := mayBe_any p c bs hl w h
  rw [hm] at hmb
  go_enter Tryz.func27, Tryz.ntmps27
  go_wp2_with fail
  refine hmb.mono ?_
  rintro e w1 ⟨rfl, hB⟩
  go_wp2
  go_ret2
  exact ⟨rfl, hB⟩
theorem new_yes (p : Option Addr) (c : Nat) (bs : List (Int × List UInt8)) (hl : bs.length ≤ room) (w : World) (h : BnS w p bs) (hm : mayB (-1) bs = true) :
    Calls Tryz.prog 27 #[.slice p bs.length c] w fun e w' => ∃ b, e = .returned (.tuple #[.pointer (some ⟨b, 0, none⟩), .int .i64 0]) ∧ HasM w' (fun k => w.heap.size ≤ k) b { m0 with banks := nbk bs } ∧ Below w.heap.size w w' := by
  have hmb := mayBe_any p c bs hl w h
  have hGd := good_of bs hm bs.length (Nat.le_refl _)
  rw [hm] at hmb
  unfold room at hl
  have z83 := zc83 w
  go_enter Tryz.func27, Tryz.ntmps27
  go_wp2_with fail
  refine hmb.mono ?_
  rintro e w1 ⟨rfl, hB⟩
  clear hmb hm
  have hmm := @run_makeMap Tryz.prog
  obtain ⟨mb, hmbq⟩ : ∃ mb, mb = w1.heap.size := ⟨_, rfl⟩
  have hwm : w.heap.size ≤ mb := by rw [hmbq]; exact hB.size
  have hM0 : MemP ((w1.alloc (.map #[] 0)).alloc (.cells (mcells mb m0 (.slice none 0 0)).toArray 104)) (fun k => w.heap.size ≤ k) (mb + 1) { m0 with banks := nbk (bs.take 0) } mb [] (.slice none 0 0) := by
    have hs1 : (w1.alloc (.map #[] 0)).heap.size = mb + 1 := by simp [hmbq]
    refine ⟨⟨m0_wf.ram, m0_wf.scr, m0_wf.ch0, m0_wf.ch1, m0_wf.pad0, m0_wf.pad1, m0_wf.pitch0, m0_wf.pitch1, m0_wf.vol0, m0_wf.vol1, m0_wf.time0, m0_wf.time1, by intro n l e; simp [nbk] at e⟩, ?_, ?_, by simp, by simp, by simp, by simp, by intro n l e; simp [nbk] at e, World.ownsRow_nil _ _ _ _, Nat.le_succ_of_le hwm, hwm, by simp, by simp [Value.ownBlock]⟩
    · rw [← hs1]; exact heap_alloc_new _ _
    · rw [Below.heap_alloc _ _ mb (by omega), hmbq]; exact heap_alloc_new w1 _
  have hB0 : Below w.heap.size w ((w1.alloc (.map #[] 0)).alloc (.cells (mcells mb m0 (.slice none 0 0)).toArray 104)) := (hB.alloc hB.size _).alloc (by have := hB.size; simp; omega) _
  have HM0 : Hid _ := hM0
  have HB0 : Hid _ := hB0
  clear hM0 hB0
  go_wp2_with (first | (refine wpList_build86 rfl (.tmp 11) rfl w1.heap.size (by simp [Act.eval]) ?_))
  rw [← hmbq] at *
  go_loopw [16] (fun i wr => ∃ (k : Nat) (L : List (Nat × Nat)), k ≤ bs.length ∧ i = .int .i64 (k : Int) ∧ MemP wr (fun k => w.heap.size ≤ k) (mb + 1) { m0 with banks := nbk (bs.take k) } mb L (.slice none 0 0) ∧ Below w.heap.size w wr) (fun i _ => bs.length - (intOf i).toNat)
  case atStart => exact ⟨0, [], by omega, rfl, HM0.out, HB0.out⟩
  case round =>
    clear HM0 HB0
    obtain ⟨k, L, hk, rfl, hM, hB⟩ := hrel
    by_cases hlt : k < bs.length
    · have i1 : (k : Int) < bs.length := by omega
      obtain ⟨b, o, dv, rfl, e1, e2, e3, e4⟩ := h.below hB k bs[k] (List.getElem?_eq_getElem hlt)
      obtain ⟨q1, q2, q3, q4, q5⟩ := nbk_step bs k hlt (hGd.mono (by omega))
      obtain ⟨n, hn⟩ : ∃ n : Nat, (bs[k]).1 = (n : Int) := ⟨(bs[k]).1.toNat, by omega⟩
      rw [hn] at e1 q1 q2 q4
      simp only [Int.toNat_natCast] at q1 q2
      generalize (bs[k]).2 = l at *
      obtain ⟨W1, hW1⟩ : ∃ W1, W1 = wr.alloc (.cells #[.int .i64 (n : Int), dv] 72) := ⟨_, rfl⟩
      obtain ⟨g, hgq⟩ : ∃ g, g = W1.heap.size := ⟨_, rfl⟩
      obtain ⟨W2, hW2⟩ : ∃ W2, W2 = (W1.alloc (.cells zero83.toArray 101)).drew := ⟨_, rfl⟩
      have hws : w.heap.size ≤ wr.heap.size := hB.size
      have hs1 : W1.heap.size = wr.heap.size + 1 := by rw [hW1]; simp
      have hB1 : Below w.heap.size w W1 := by rw [hW1]; exact hB.alloc hB.size _
      have hB2 : Below w.heap.size w W2 := by rw [hW2]; exact (hB1.alloc hB1.size _).drew
      have hg2 : W2.heap[g]? = some (.cells zero83.toArray 101 (0, 0)) := by rw [hW2, hgq]; exact heap_alloc_new W1 _
      have hb12 : Below wr.heap.size wr W2 := by rw [hW2, hW1]; exact (((Below.refl _ wr).alloc (Nat.le_refl _) _).alloc (by simp) _).drew
      have hv2 : W2.heap[wr.heap.size]? = some (.cells [.int .i64 (n : Int), dv].toArray 72 (0, 0)) := by
        rw [hW2, hW1]; exact (Below.heap_alloc _ _ _ (by simp)).trans (heap_alloc_new wr _)
      obtain ⟨W3, hcp, hk3, hB3, hst3, hsz3⟩ := run_copy_bank W2 g dv l 3 hg2 (e3.below hb12) q5 w.heap.size w hB2 (by omega)
      have hv3 : W3.heap[wr.heap.size]? = some (.cells [.int .i64 (n : Int), dv].toArray 72 (0, 0)) := (hst3 _ (by omega)).trans hv2
      have hold : ∀ j, j < wr.heap.size → W3.heap[j]? = wr.heap[j]? := fun j hj => (hst3 j (by omega)).trans (hb12.block j hj)
      have c0 := cell_of W3 (mb + 1) 0 _ 104 _ ((hold _ (lt_of hM.blk)).trans hM.blk) (mcells_0 mb _ _)
      have cv0 := cell_of W3 wr.heap.size 0 _ 72 _ hv3 rfl
      have hput := run_put W3.drew mb n g L ((hold _ (lt_of hM.map)).trans hM.map) (by rintro p hp rfl; obtain ⟨l', e, _⟩ := hM.bks p hp; have e2 : nbk (bs.take k) p.1 = some l' := e; rw [q2] at e2; cases e2)
      have hM4 := hM.add n g (pad l) (W1 := W3.drew) hold (by omega) q2 (pad_len l q5) (by omega) (show w.heap.size ≤ g by omega) hk3
      have hB4 : Below w.heap.size w (setBlock W3.drew mb (.map (ents 0 (L ++ [(n, g)])).toArray (L ++ [(n, g)]).length)) := Below.setBlock hB3.drew mb hwm _
      generalize setBlock W3.drew mb (.map (ents 0 (L ++ [(n, g)])).toArray (L ++ [(n, g)]).length) = W4 at *
      have hM5 : MemP W4 (fun k => w.heap.size ≤ k) (mb + 1) { m0 with banks := nbk (bs.take (k + 1)) } mb (L ++ [(n, g)]) (.slice none 0 0) := by rw [q1]; exact hM4
      have HM : Hid _ := hM5
      have HB : Hid _ := hB4
      obtain ⟨dp, dc, rfl, _⟩ := e3.ex
      subst hW2 hW1
      rw [hs1] at hgq
      subst hgq
      clear hM hM4 hM5 hB4 hB3 hB2 hB1 hb12 hk3 hst3 hsz3 hv3 hv2 hold q1 q2 hg2 e3 hB hs1
      go_wp2_with fail
      go_region
      go_wp2_with fail
      go_region
      go_wp2
      go_roundw
      case rel =>
        first
          | exact ⟨k + 1, _, by omega, by go_num, HM.out, HB.out⟩
          | ((repeat apply Exists.intro); refine ⟨⟨k + 1, _, by omega, ?_, HM.out, HB.out⟩, rfl⟩; go_num)
      case measure => simp [intOf]; omega
    · obtain rfl : k = bs.length := by omega
      rw [List.take_length] at hM
      go_wp2
      go_ret2
      exact ⟨_, rfl, ⟨_, _, _, hM⟩, hB⟩
end Go.Proofs.YtgponcjjnjpfkabGreat.M
namespace Go.Proofs.YtgponcjjnjpfkabGreat.C

/-- a cell -/
def C (x : Int) : Prop := 0 ≤ x ∧ x < 65536
def sg (x : Int) : Int := if x < 32768 then x else x - 65536
def cl (n : Int) : Int := n % 65536
def fl (b : Bool) : Int := if b then 65535 else 0

def unRaw (op x : Int) : Int :=
  if op = 28 then -x else if op = 29 then (if x < 32768 then x else -x) else if op = 32 then x + 1 else if op = 33 then x - 1
  else if op = 34 then x + x else if op = 35 then sg x / 2 else if op = 39 then 65535 - x
  else if op = 48 then fl (decide (x = 0)) else if op = 49 then fl (decide (sg x < 0)) else 0
def un (op x : Int) : Int := cl (unRaw op x)
def isUn (op : Int) : Bool :=
  op == 28 || op == 29 || op == 32 || op == 33 || op == 34 || op == 35 || op == 39 || op == 48 || op == 49

def biRaw (op x y : Int) : Int :=
  if op = 21 then x + y else if op = 22 then x - y else if op = 23 then x * y
  else if op = 24 then (if y = 0 then 0 else (sg x).tdiv (sg y)) else if op = 25 then (if y = 0 then 0 else (sg x).tmod (sg y))
  else if op = 26 then (if y = 0 then 0 else x / y) else if op = 27 then (if y = 0 then 0 else x % y)
  else if op = 30 then min (sg x) (sg y) else if op = 31 then max (sg x) (sg y)
  else if op = 36 then ((x.toNat &&& y.toNat : Nat) : Int) else if op = 37 then ((x.toNat ||| y.toNat : Nat) : Int)
  else if op = 38 then ((x.toNat ^^^ y.toNat : Nat) : Int)
  else if op = 40 then (if 15 < y then 0 else x * 2 ^ y.toNat) else if op = 41 then (if 15 < y then 0 else x / 2 ^ y.toNat)
  else if op = 42 then fl (decide (x = y)) else if op = 43 then fl (decide (x ≠ y))
  else if op = 44 then fl (decide (sg x < sg y)) else if op = 45 then fl (decide (sg y < sg x))
  else if op = 46 then fl (decide (x < y)) else if op = 47 then fl (decide (y < x)) else 0
def bi (op x y : Int) : Int := cl (biRaw op x y)
def isBi (op : Int) : Bool :=
  op == 21 || op == 22 || op == 23 || op == 24 || op == 25 || op == 26 || op == 27 || op == 30 || op == 31 || op == 36
  || op == 37 || op == 38 || op == 40 || op == 41 || op == 42 || op == 43 || op == 44 || op == 45 || op == 46 || op == 47

theorem C_cl (n : Int) : C (cl n) := by unfold C cl; omega
theorem C_un (op x : Int) : C (un op x) := C_cl _
theorem C_bi (op x y : Int) : C (bi op x y) := C_cl _
theorem C_lit (n : Int) (h : 0 ≤ n) (h' : n < 65536) : C n := ⟨h, h'⟩
theorem cl_id {n : Int} (h : C n) : cl n = n := by unfold C at h; unfold cl; omega
theorem sg_range {x : Int} (h : C x) : -32768 ≤ sg x ∧ sg x ≤ 32767 := by unfold C at h; unfold sg; split <;> omega
theorem cl_sg {x : Int} (h : C x) : cl (sg x) = x := by unfold C at h; unfold sg cl; split <;> omega
theorem sg_mod (x : Int) : sg x % 65536 = x % 65536 := by unfold sg; split <;> omega

/-! what each primitive comes to, as the code reckons it -/
theorem un_28 (x : Int) : cl (-sg x) = un 28 x := by have := sg_mod x; simp [un, unRaw, cl]; omega
theorem un_29n (x : Int) (h : 32768 ≤ x) : cl (-sg x) = un 29 x := by
  have := sg_mod x
  have k : ¬ x < 32768 := by omega
  simp [un, unRaw, cl, k]; omega
theorem un_29p (x : Int) (hx : C x) (h : x < 32768) : x = un 29 x := by unfold C at hx; simp [un, unRaw, cl, h]; omega
theorem un_32 (x : Int) : cl (sg x + 1) = un 32 x := by have := sg_mod x; simp [un, unRaw, cl]; omega
theorem un_33 (x : Int) : cl (sg x - 1) = un 33 x := by have := sg_mod x; simp [un, unRaw, cl]; omega
theorem un_34 (x : Int) : cl (sg x + sg x) = un 34 x := by have := sg_mod x; simp [un, unRaw, cl]; omega
theorem un_35 (x : Int) : cl (sg x / 2) = un 35 x := by simp [un, unRaw]
theorem un_39 (x : Int) (hx : C x) : 65535 - x = un 39 x := by unfold C at hx; simp [un, unRaw, cl]; omega
theorem C_fl (b : Bool) : C (fl b) := by cases b <;> simp [fl, C]
theorem un_48 (x : Int) : fl (decide (x = 0)) = un 48 x := by simp [un, unRaw, cl_id (C_fl _)]
theorem un_49 (x : Int) : fl (decide (sg x < 0)) = un 49 x := by simp [un, unRaw, cl_id (C_fl _)]
theorem un_no (op x : Int) (h : isUn op = false) : (0 : Int) = un op x := by
  simp [isUn] at h; simp [un, unRaw, h, cl]
theorem sg_zero {x : Int} (h : C x) : sg x = 0 ↔ x = 0 := by unfold C at h; unfold sg; split <;> omega
theorem sg_inj {x y : Int} (h : C x) (k : C y) : sg x = sg y ↔ x = y := by unfold C at h k; unfold sg; split <;> split <;> omega

theorem tdiv_range (n m : Int) (h : -65536 ≤ n ∧ n ≤ 65536) : -65536 ≤ n.tdiv m ∧ n.tdiv m ≤ 65536 := by
  have h1 : (n.tdiv m).natAbs ≤ n.natAbs := by rw [Int.natAbs_tdiv]; exact Nat.div_le_self _ _
  generalize n.tdiv m = q at h1 ⊢
  omega
theorem tmod_range (n m : Int) (h : -65536 ≤ n ∧ n ≤ 65536) : -65536 ≤ n.tmod m ∧ n.tmod m ≤ 65536 := by
  have h1 : (n.tmod m).natAbs ≤ n.natAbs := by rw [Int.natAbs_tmod]; exact Nat.mod_le _ _
  generalize n.tmod m = q at h1 ⊢
  omega
theorem mul_range (n m : Int) (h : -65536 ≤ n ∧ n ≤ 65536) (k : -65536 ≤ m ∧ m ≤ 65536) : -4294967296 ≤ n * m ∧ n * m ≤ 4294967296 := by
  have h1 : (n * m).natAbs ≤ 65536 * 65536 := by rw [Int.natAbs_mul]; exact Nat.mul_le_mul (by omega) (by omega)
  generalize n * m = q at h1 ⊢
  omega

theorem xor_ones (X : Nat) (h : X < 65536) : 65535 ^^^ X = 65535 - X := by
  have h1 : (BitVec.allOnes 16 ^^^ BitVec.ofNat 16 X).toNat = 65535 - X := by
    rw [← BitVec.not_def, BitVec.toNat_not, BitVec.toNat_ofNat]; omega
  rw [BitVec.toNat_xor, BitVec.toNat_ofNat, BitVec.toNat_allOnes] at h1
  have e : X % 2 ^ 16 = X := by omega
  rw [e] at h1
  exact h1

theorem bi_21 (x y : Int) : cl (sg x + sg y) = bi 21 x y := by have := sg_mod x; have := sg_mod y; simp [bi, biRaw, cl]; omega
theorem bi_22 (x y : Int) : cl (sg x + -sg y) = bi 22 x y := by have := sg_mod x; have := sg_mod y; simp [bi, biRaw, cl]; omega
theorem bi_23 (x y : Int) : cl (sg x * sg y) = bi 23 x y := by
  simp only [bi, biRaw, cl]; simp
  rw [Int.mul_emod, sg_mod, sg_mod, ← Int.mul_emod]
def qt (n m : Int) : Int := if m = 0 then 0 else n.tdiv m
def rm (n m : Int) : Int := if m = 0 then 0 else n.tmod m
theorem bi_24 (x y : Int) (hy : C y) : cl (qt (sg x) (sg y)) = bi 24 x y := by
  simp [qt, bi, biRaw, sg_zero hy]
theorem bi_25 (x y : Int) (hy : C y) : cl (rm (sg x) (sg y)) = bi 25 x y := by
  simp [rm, bi, biRaw, sg_zero hy]
theorem bi_26 (x y : Int) (hx : C x) : cl (qt x y) = bi 26 x y := by
  simp [qt, bi, biRaw, Int.tdiv_eq_ediv_of_nonneg hx.1]
theorem bi_27 (x y : Int) (hx : C x) : cl (rm x y) = bi 27 x y := by
  simp [rm, bi, biRaw, Int.tmod_eq_emod_of_nonneg hx.1]
theorem bi_30l (x y : Int) (h : sg x ≤ sg y) : cl (sg x) = bi 30 x y := by simp [bi, biRaw, Int.min_eq_left h]
theorem bi_30g (x y : Int) (h : sg y < sg x) : cl (sg y) = bi 30 x y := by simp [bi, biRaw, Int.min_eq_right (Int.le_of_lt h)]
theorem bi_31l (x y : Int) (h : sg x < sg y) : cl (sg y) = bi 31 x y := by simp [bi, biRaw, Int.max_eq_right (Int.le_of_lt h)]
theorem bi_31g (x y : Int) (h : sg y ≤ sg x) : cl (sg x) = bi 31 x y := by simp [bi, biRaw, Int.max_eq_left h]
theorem and_lt {x y : Int} (hx : C x) : x.toNat &&& y.toNat < 65536 := Nat.lt_of_le_of_lt Nat.and_le_left (by unfold C at hx; omega)
theorem or_lt {x y : Int} (hx : C x) (hy : C y) : x.toNat ||| y.toNat < 65536 := Nat.or_lt_two_pow (n := 16) (by unfold C at hx; omega) (by unfold C at hy; omega)
theorem xor_lt {x y : Int} (hx : C x) (hy : C y) : x.toNat ^^^ y.toNat < 65536 := Nat.xor_lt_two_pow (n := 16) (by unfold C at hx; omega) (by unfold C at hy; omega)
theorem bi_36 (x y : Int) (hx : C x) : ((x.toNat &&& y.toNat : Nat) : Int) = bi 36 x y := by
  have := and_lt (y := y) hx; simp only [bi, biRaw, cl]; simp only [Int.reduceEq, ite_false, ite_true]; omega
theorem bi_37 (x y : Int) (hx : C x) (hy : C y) : ((x.toNat ||| y.toNat : Nat) : Int) = bi 37 x y := by
  have := or_lt hx hy; simp only [bi, biRaw, cl]; simp only [Int.reduceEq, ite_false, ite_true]; omega
theorem bi_38 (x y : Int) (hx : C x) (hy : C y) : ((x.toNat ^^^ y.toNat : Nat) : Int) = bi 38 x y := by
  have := xor_lt hx hy; simp only [bi, biRaw, cl]; simp only [Int.reduceEq, ite_false, ite_true]; omega
theorem bi_40g (x y : Int) (h : 15 < y) : (0 : Int) = bi 40 x y := by simp [bi, biRaw, cl, h]
theorem bi_40l (x y : Int) (h : ¬ 15 < y) : cl (x * 2 ^ y.toNat) = bi 40 x y := by simp [bi, biRaw, cl, h]
theorem bi_41g (x y : Int) (h : 15 < y) : (0 : Int) = bi 41 x y := by simp [bi, biRaw, cl, h]
theorem C_shr (x : Int) (k : Nat) (hx : C x) : C (x / 2 ^ k) := by
  obtain ⟨h0, h1⟩ := hx
  have hp : (0 : Int) < 2 ^ k := Int.pow_pos (by decide)
  exact ⟨Int.ediv_nonneg h0 (Int.le_of_lt hp), Int.lt_of_le_of_lt (Int.ediv_le_self _ h0) h1⟩
theorem bi_41l (x y : Int) (hx : C x) (h : ¬ 15 < y) : x / 2 ^ y.toNat = bi 41 x y := by
  have := cl_id (C_shr x y.toNat hx); simp [bi, biRaw, h, this]
theorem bi_42 (x y : Int) : fl (decide (x = y)) = bi 42 x y := by simp [bi, biRaw, cl_id (C_fl _)]
theorem bi_43 (x y : Int) : fl (x != y) = bi 43 x y := by
  have e : (x != y) = decide (x ≠ y) := by rw [Bool.eq_iff_iff]; simp
  rw [e]; simp only [bi, biRaw]; simp only [Int.reduceEq, ite_false, ite_true, cl_id (C_fl _)]
theorem bi_44 (x y : Int) : fl (decide (sg x < sg y)) = bi 44 x y := by simp [bi, biRaw, cl_id (C_fl _)]
theorem bi_45 (x y : Int) : fl (decide (sg y < sg x)) = bi 45 x y := by simp [bi, biRaw, cl_id (C_fl _)]
theorem bi_46 (x y : Int) : fl (decide (x < y)) = bi 46 x y := by simp [bi, biRaw, cl_id (C_fl _)]
theorem bi_47 (x y : Int) : fl (decide (y < x)) = bi 47 x y := by simp [bi, biRaw, cl_id (C_fl _)]
theorem bi_no (op x y : Int) (h : isBi op = false) : (0 : Int) = bi op x y := by
  simp [isBi] at h; simp [bi, biRaw, h, cl]

def isBit (op : Int) : Bool := op == 36 || op == 37 || op == 38 || op == 40 || op == 41
def isAri (op : Int) : Bool := op == 22 || op == 21 || op == 23 || op == 26 || op == 24 || op == 27 || op == 25 || op == 30 || op == 31
def isCmp (op : Int) : Bool := op == 42 || op == 43 || op == 46 || op == 44 || op == 47 || op == 45
theorem isBi_bit {op : Int} (h : isBit op = true) : isBi op = true := by
  simp only [isBit, isBi, Bool.or_eq_true, beq_iff_eq] at h ⊢; omega
theorem isBi_ari {op : Int} (h : isAri op = true) : isBi op = true := by
  simp only [isAri, isBi, Bool.or_eq_true, beq_iff_eq] at h ⊢; omega
theorem isBi_cmp {op : Int} (h : isCmp op = true) : isBi op = true := by
  simp only [isCmp, isBi, Bool.or_eq_true, beq_iff_eq] at h ⊢; omega
theorem isBi_none {op : Int} (h : isBit op = false) (k : isAri op = false) (l : isCmp op = false) : isBi op = false := by
  simp only [isBit, isAri, isCmp, isBi, Bool.or_eq_false_iff, beq_eq_false_iff_ne] at h k l ⊢; omega

end Go.Proofs.YtgponcjjnjpfkabGreat.C
namespace Go.Proofs.YtgponcjjnjpfkabGreat.C
open Go.RowKit

theorem ret_int {k : IntKind} {a b : Int} (h : a = b) : Ending.returned (.int k a) = .returned (.int k b) := by rw [h]
theorem ret_ib {k : IntKind} {a b : Int} {p q : Bool} (h : a = b) (h' : p = q) :
    Ending.returned (.tuple #[.int k a, .bool p]) = .returned (.tuple #[.int k b, .bool q]) := by rw [h, h']
theorem ret_bool {p q : Bool} (h : p = q) : Ending.returned (.bool p) = .returned (.bool q) := by rw [h]

theorem not_39 (x : Int) (hx : C x) : bits BinOp.xor IntKind.u16 IntKind.u16.max x = un 39 x := by
  have e : IntKind.u16.max = 65535 := rfl
  rw [e, u16_xor 65535 x (by decide) (by decide) hx.1 hx.2, ← un_39 x hx]
  have k := hx
  unfold C at k
  have h : (65535 : Int).toNat ^^^ x.toNat = 65535 - x.toNat := xor_ones x.toNat (by omega)
  rw [h]; omega
set_option maxHeartbeats 400000 in
theorem signed_any (x : Int) (hx : C x) (w : World) :
    Calls Tryz.prog 153 #[.int .u16 x] w fun e w' => e = .returned (.int .i64 (sg x)) ∧ w' = w := by
  obtain ⟨h1, h2⟩ := hx
  by_cases h : x < 32768
  · go_enter Tryz.func153, Tryz.ntmps153
    go_wp2
    go_ret
    exact ⟨ret_int (by unfold sg; rw [if_pos h]), rfl⟩
  · go_enter Tryz.func153, Tryz.ntmps153
    go_wp2
    go_ret
    exact ⟨ret_int (by unfold sg; rw [if_neg (by omega)]), rfl⟩
set_option maxHeartbeats 400000 in
theorem cell_any (n : Int) (w : World) :
    Calls Tryz.prog 154 #[.int .i64 n] w fun e w' => e = .returned (.int .u16 (cl n)) ∧ w' = w := by
  go_enter Tryz.func154, Tryz.ntmps154
  go_wp2
  go_ret
  exact ⟨ret_int (by unfold cl; exact IntKind.wrap_u16 n), rfl⟩
set_option maxHeartbeats 400000 in
theorem flag_any (b : Bool) (w : World) :
    Calls Tryz.prog 155 #[.bool b] w fun e w' => e = .returned (.int .u16 (fl b)) ∧ w' = w := by
  cases b
  · go_enter Tryz.func155, Tryz.ntmps155
    go_wp2
    go_ret
    exact ⟨rfl, rfl⟩
  · go_enter Tryz.func155, Tryz.ntmps155
    go_wp2
    go_ret
    exact ⟨rfl, rfl⟩
set_option maxHeartbeats 400000 in
theorem quotient_any (n m : Int) (hn : -65536 ≤ n ∧ n ≤ 65536) (w : World) :
    Calls Tryz.prog 156 #[.int .i64 n, .int .i64 m] w fun e w' => e = .returned (.int .u16 (cl (qt n m))) ∧ w' = w := by
  by_cases h : m = 0
  · subst h
    go_enter Tryz.func156, Tryz.ntmps156
    go_wp2
    go_ret
    exact ⟨rfl, rfl⟩
  · have h0 : (m == 0) = false := by simpa using h
    have hq := tdiv_range n m hn
    have hh : Hid (n.tdiv m = qt n m) := by show _ = _; simp [qt, h]
    go_enter Tryz.func156, Tryz.ntmps156
    go_wp2_with (first | (go_at_call 154; refine (cell_any _ _).mono ?_; rintro e w' ⟨rfl, rfl⟩))
    go_ret
    exact ⟨ret_int (by rw [hh.out]), rfl⟩
set_option maxHeartbeats 400000 in
theorem remainder_any (n m : Int) (hn : -65536 ≤ n ∧ n ≤ 65536) (w : World) :
    Calls Tryz.prog 157 #[.int .i64 n, .int .i64 m] w fun e w' => e = .returned (.int .u16 (cl (rm n m))) ∧ w' = w := by
  by_cases h : m = 0
  · subst h
    go_enter Tryz.func157, Tryz.ntmps157
    go_wp2
    go_ret
    exact ⟨rfl, rfl⟩
  · have h0 : (m == 0) = false := by simpa using h
    have hq := tmod_range n m hn
    have hh : Hid (n.tmod m = rm n m) := by show _ = _; simp [rm, h]
    go_enter Tryz.func157, Tryz.ntmps157
    go_wp2_with (first | (go_at_call 154; refine (cell_any _ _).mono ?_; rintro e w' ⟨rfl, rfl⟩))
    go_ret
    exact ⟨ret_int (by rw [hh.out]), rfl⟩
set_option maxHeartbeats 400000 in
theorem unary_28 (x : Int) (hx : C x) (w : World) :
    Calls Tryz.prog 145 #[.int .i64 28, .int .u16 x] w fun e w' => e = .returned (.tuple #[.int .u16 (un 28 x), .bool true]) ∧ w' = w := by
  have hs := sg_range hx
  go_enter Tryz.func145, Tryz.ntmps145
  go_wp2_with (first | (go_at_call 153; refine (signed_any _ (by assumption) _).mono ?_; rintro e w' ⟨rfl, rfl⟩) | (go_at_call 154; refine (cell_any _ _).mono ?_; rintro e w' ⟨rfl, rfl⟩) | (go_at_call 155; refine (flag_any _ _).mono ?_; rintro e w' ⟨rfl, rfl⟩))
  go_ret2
  exact ⟨ret_ib (un_28 x) rfl, rfl⟩
set_option maxHeartbeats 400000 in
theorem unary_32 (x : Int) (hx : C x) (w : World) :
    Calls Tryz.prog 145 #[.int .i64 32, .int .u16 x] w fun e w' => e = .returned (.tuple #[.int .u16 (un 32 x), .bool true]) ∧ w' = w := by
  have hs := sg_range hx
  go_enter Tryz.func145, Tryz.ntmps145
  go_wp2_with (first | (go_at_call 153; refine (signed_any _ (by assumption) _).mono ?_; rintro e w' ⟨rfl, rfl⟩) | (go_at_call 154; refine (cell_any _ _).mono ?_; rintro e w' ⟨rfl, rfl⟩) | (go_at_call 155; refine (flag_any _ _).mono ?_; rintro e w' ⟨rfl, rfl⟩))
  go_ret2
  exact ⟨ret_ib (un_32 x) rfl, rfl⟩
set_option maxHeartbeats 400000 in
theorem unary_33 (x : Int) (hx : C x) (w : World) :
    Calls Tryz.prog 145 #[.int .i64 33, .int .u16 x] w fun e w' => e = .returned (.tuple #[.int .u16 (un 33 x), .bool true]) ∧ w' = w := by
  have hs := sg_range hx
  go_enter Tryz.func145, Tryz.ntmps145
  go_wp2_with (first | (go_at_call 153; refine (signed_any _ (by assumption) _).mono ?_; rintro e w' ⟨rfl, rfl⟩) | (go_at_call 154; refine (cell_any _ _).mono ?_; rintro e w' ⟨rfl, rfl⟩) | (go_at_call 155; refine (flag_any _ _).mono ?_; rintro e w' ⟨rfl, rfl⟩))
  go_ret2
  exact ⟨ret_ib (un_33 x) rfl, rfl⟩
set_option maxHeartbeats 400000 in
theorem unary_34 (x : Int) (hx : C x) (w : World) :
    Calls Tryz.prog 145 #[.int .i64 34, .int .u16 x] w fun e w' => e = .returned (.tuple #[.int .u16 (un 34 x), .bool true]) ∧ w' = w := by
  have hs := sg_range hx
  go_enter Tryz.func145, Tryz.ntmps145
  go_wp2_with (first | (go_at_call 153; refine (signed_any _ (by assumption) _).mono ?_; rintro e w' ⟨rfl, rfl⟩) | (go_at_call 154; refine (cell_any _ _).mono ?_; rintro e w' ⟨rfl, rfl⟩) | (go_at_call 155; refine (flag_any _ _).mono ?_; rintro e w' ⟨rfl, rfl⟩))
  go_ret2
  exact ⟨ret_ib (un_34 x) rfl, rfl⟩
set_option maxHeartbeats 400000 in
theorem unary_35 (x : Int) (hx : C x) (w : World) :
    Calls Tryz.prog 145 #[.int .i64 35, .int .u16 x] w fun e w' => e = .returned (.tuple #[.int .u16 (un 35 x), .bool true]) ∧ w' = w := by
  have hs := sg_range hx
  go_enter Tryz.func145, Tryz.ntmps145
  go_wp2_with (first | (go_at_call 153; refine (signed_any _ (by assumption) _).mono ?_; rintro e w' ⟨rfl, rfl⟩) | (go_at_call 154; refine (cell_any _ _).mono ?_; rintro e w' ⟨rfl, rfl⟩) | (go_at_call 155; refine (flag_any _ _).mono ?_; rintro e w' ⟨rfl, rfl⟩))
  go_ret2
  exact ⟨ret_ib (un_35 x) rfl, rfl⟩
set_option maxHeartbeats 400000 in
theorem unary_48 (x : Int) (hx : C x) (w : World) :
    Calls Tryz.prog 145 #[.int .i64 48, .int .u16 x] w fun e w' => e = .returned (.tuple #[.int .u16 (un 48 x), .bool true]) ∧ w' = w := by
  have hs := sg_range hx
  go_enter Tryz.func145, Tryz.ntmps145
  go_wp2_with (first | (go_at_call 153; refine (signed_any _ (by assumption) _).mono ?_; rintro e w' ⟨rfl, rfl⟩) | (go_at_call 154; refine (cell_any _ _).mono ?_; rintro e w' ⟨rfl, rfl⟩) | (go_at_call 155; refine (flag_any _ _).mono ?_; rintro e w' ⟨rfl, rfl⟩))
  go_ret2
  exact ⟨ret_ib (un_48 x) rfl, rfl⟩
set_option maxHeartbeats 400000 in
theorem unary_49 (x : Int) (hx : C x) (w : World) :
    Calls Tryz.prog 145 #[.int .i64 49, .int .u16 x] w fun e w' => e = .returned (.tuple #[.int .u16 (un 49 x), .bool true]) ∧ w' = w := by
  have hs := sg_range hx
  go_enter Tryz.func145, Tryz.ntmps145
  go_wp2_with (first | (go_at_call 153; refine (signed_any _ (by assumption) _).mono ?_; rintro e w' ⟨rfl, rfl⟩) | (go_at_call 154; refine (cell_any _ _).mono ?_; rintro e w' ⟨rfl, rfl⟩) | (go_at_call 155; refine (flag_any _ _).mono ?_; rintro e w' ⟨rfl, rfl⟩))
  go_ret2
  exact ⟨ret_ib (un_49 x) rfl, rfl⟩
set_option maxHeartbeats 400000 in
theorem unary_39 (x : Int) (hx : C x) (w : World) :
    Calls Tryz.prog 145 #[.int .i64 39, .int .u16 x] w fun e w' => e = .returned (.tuple #[.int .u16 (un 39 x), .bool true]) ∧ w' = w := by
  have hs := sg_range hx
  have hx' := hx
  unfold C at hx'
  go_enter Tryz.func145, Tryz.ntmps145
  go_wp2_with (first | (go_at_call 153; refine (signed_any _ (by assumption) _).mono ?_; rintro e w' ⟨rfl, rfl⟩) | (go_at_call 154; refine (cell_any _ _).mono ?_; rintro e w' ⟨rfl, rfl⟩) | (go_at_call 155; refine (flag_any _ _).mono ?_; rintro e w' ⟨rfl, rfl⟩))
  go_ret2
  exact ⟨ret_ib (not_39 x hx) rfl, rfl⟩
set_option maxHeartbeats 400000 in
theorem unary_29p (x : Int) (hx : C x) (h : x < 32768) (w : World) :
    Calls Tryz.prog 145 #[.int .i64 29, .int .u16 x] w fun e w' => e = .returned (.tuple #[.int .u16 (un 29 x), .bool true]) ∧ w' = w := by
  have hs := sg_range hx
  have h0 : 0 ≤ sg x := by have hx' := hx; unfold C at hx'; unfold sg; rw [if_pos h]; omega
  go_enter Tryz.func145, Tryz.ntmps145
  go_wp2_with (first | (go_at_call 153; refine (signed_any _ (by assumption) _).mono ?_; rintro e w' ⟨rfl, rfl⟩) | (go_at_call 154; refine (cell_any _ _).mono ?_; rintro e w' ⟨rfl, rfl⟩) | (go_at_call 155; refine (flag_any _ _).mono ?_; rintro e w' ⟨rfl, rfl⟩))
  go_ret2
  exact ⟨ret_ib (un_29p x hx h) rfl, rfl⟩
set_option maxHeartbeats 400000 in
theorem unary_29n (x : Int) (hx : C x) (h : 32768 ≤ x) (w : World) :
    Calls Tryz.prog 145 #[.int .i64 29, .int .u16 x] w fun e w' => e = .returned (.tuple #[.int .u16 (un 29 x), .bool true]) ∧ w' = w := by
  have hs := sg_range hx
  have h0 : sg x < 0 := by have hx' := hx; unfold C at hx'; unfold sg; rw [if_neg (by omega)]; omega
  go_enter Tryz.func145, Tryz.ntmps145
  go_wp2_with (first | (go_at_call 153; refine (signed_any _ (by assumption) _).mono ?_; rintro e w' ⟨rfl, rfl⟩) | (go_at_call 154; refine (cell_any _ _).mono ?_; rintro e w' ⟨rfl, rfl⟩) | (go_at_call 155; refine (flag_any _ _).mono ?_; rintro e w' ⟨rfl, rfl⟩))
  go_ret2
  exact ⟨ret_ib (un_29n x h) rfl, rfl⟩
set_option maxHeartbeats 400000 in
theorem unary_no (op x : Int) (hx : C x) (h : isUn op = false) (w : World) :
    Calls Tryz.prog 145 #[.int .i64 op, .int .u16 x] w fun e w' => e = .returned (.tuple #[.int .u16 (un op x), .bool (isUn op)]) ∧ w' = w := by
  have hz : Hid ((0 : Int) = un op x) := un_no op x h
  have hf : Hid (isUn op = false) := h
  have hh := h
  simp only [isUn, Bool.or_eq_false_iff] at hh
  obtain ⟨⟨⟨⟨⟨⟨⟨⟨e28, e29⟩, e32⟩, e33⟩, e34⟩, e35⟩, e39⟩, e48⟩, e49⟩ := hh
  clear h
  go_enter Tryz.func145, Tryz.ntmps145
  go_wp2_with (first | (go_at_call 153; refine (signed_any _ (by assumption) _).mono ?_; rintro e w' ⟨rfl, rfl⟩) | (go_at_call 154; refine (cell_any _ _).mono ?_; rintro e w' ⟨rfl, rfl⟩) | (go_at_call 155; refine (flag_any _ _).mono ?_; rintro e w' ⟨rfl, rfl⟩))
  go_ret2
  exact ⟨ret_ib hz.out hf.out.symm, rfl⟩
theorem unary_any (op x : Int) (hx : C x) (w : World) :
    Calls Tryz.prog 145 #[.int .i64 op, .int .u16 x] w fun e w' => e = .returned (.tuple #[.int .u16 (un op x), .bool (isUn op)]) ∧ w' = w := by
  cases h : isUn op
  · rw [← h]; exact unary_no op x hx h w
  · simp only [isUn, Bool.or_eq_true, beq_iff_eq] at h
    rcases h with (((((((h | h) | h) | h) | h) | h) | h) | h) | h <;> subst h
    · exact unary_28 x hx w
    · by_cases k : x < 32768
      · exact unary_29p x hx k w
      · exact unary_29n x hx (by omega) w
    · exact unary_32 x hx w
    · exact unary_33 x hx w
    · exact unary_34 x hx w
    · exact unary_35 x hx w
    · exact unary_39 x hx w
    · exact unary_48 x hx w
    · exact unary_49 x hx w
end Go.Proofs.YtgponcjjnjpfkabGreat.C
namespace Go.Proofs.YtgponcjjnjpfkabGreat.C
open Go.RowKit

theorem b_36 (x y : Int) (hx : C x) (hy : C y) : bits BinOp.and IntKind.u16 x y = bi 36 x y := by
  rw [u16_and x y hx.1 hx.2 hy.1 hy.2]; exact bi_36 x y hx
theorem b_37 (x y : Int) (hx : C x) (hy : C y) : bits BinOp.or IntKind.u16 x y = bi 37 x y := by
  rw [u16_or x y hx.1 hx.2 hy.1 hy.2]; exact bi_37 x y hx hy
theorem b_38 (x y : Int) (hx : C x) (hy : C y) : bits BinOp.xor IntKind.u16 x y = bi 38 x y := by
  rw [u16_xor x y hx.1 hx.2 hy.1 hy.2]; exact bi_38 x y hx hy
theorem b_40 (x y : Int) (hy : C y) : IntKind.u16.wrap (x * 2 ^ min y.toNat 16) = bi 40 x y := by
  unfold C at hy
  rw [IntKind.wrap_u16]
  by_cases h : 15 < y
  · rw [← bi_40g x y h, show min y.toNat 16 = 16 from by omega]; omega
  · rw [← bi_40l x y h, show min y.toNat 16 = y.toNat from by omega]; rfl
theorem b_41 (x y : Int) (hx : C x) : x / 2 ^ min y.toNat 16 = bi 41 x y := by
  by_cases h : 15 < y
  · rw [← bi_41g x y h, show min y.toNat 16 = 16 from by omega]; unfold C at hx; omega
  · rw [← bi_41l x y hx h, show min y.toNat 16 = y.toNat from by omega]
set_option maxHeartbeats 400000 in
theorem bin_36 (x y : Int) (hx : C x) (hy : C y) (w : World) :
    Calls Tryz.prog 150 #[.int .i64 36, .int .u16 x, .int .u16 y] w fun e w' => e = .returned (.tuple #[.int .u16 (bi 36 x y), .bool true]) ∧ w' = w := by
  go_enter Tryz.func150, Tryz.ntmps150
  go_wp2_with (first | (go_at_call 153; refine (signed_any _ (by assumption) _).mono ?_; rintro e w' ⟨rfl, rfl⟩) | (go_at_call 154; refine (cell_any _ _).mono ?_; rintro e w' ⟨rfl, rfl⟩) | (go_at_call 155; refine (flag_any _ _).mono ?_; rintro e w' ⟨rfl, rfl⟩) | (go_at_call 156; refine (quotient_any _ _ (by omega) _).mono ?_; rintro e w' ⟨rfl, rfl⟩) | (go_at_call 157; refine (remainder_any _ _ (by omega) _).mono ?_; rintro e w' ⟨rfl, rfl⟩))
  go_ret2
  exact ⟨ret_ib (b_36 x y hx hy) rfl, rfl⟩
set_option maxHeartbeats 400000 in
theorem bin_37 (x y : Int) (hx : C x) (hy : C y) (w : World) :
    Calls Tryz.prog 150 #[.int .i64 37, .int .u16 x, .int .u16 y] w fun e w' => e = .returned (.tuple #[.int .u16 (bi 37 x y), .bool true]) ∧ w' = w := by
  go_enter Tryz.func150, Tryz.ntmps150
  go_wp2_with (first | (go_at_call 153; refine (signed_any _ (by assumption) _).mono ?_; rintro e w' ⟨rfl, rfl⟩) | (go_at_call 154; refine (cell_any _ _).mono ?_; rintro e w' ⟨rfl, rfl⟩) | (go_at_call 155; refine (flag_any _ _).mono ?_; rintro e w' ⟨rfl, rfl⟩) | (go_at_call 156; refine (quotient_any _ _ (by omega) _).mono ?_; rintro e w' ⟨rfl, rfl⟩) | (go_at_call 157; refine (remainder_any _ _ (by omega) _).mono ?_; rintro e w' ⟨rfl, rfl⟩))
  go_ret2
  exact ⟨ret_ib (b_37 x y hx hy) rfl, rfl⟩
set_option maxHeartbeats 400000 in
theorem bin_38 (x y : Int) (hx : C x) (hy : C y) (w : World) :
    Calls Tryz.prog 150 #[.int .i64 38, .int .u16 x, .int .u16 y] w fun e w' => e = .returned (.tuple #[.int .u16 (bi 38 x y), .bool true]) ∧ w' = w := by
  go_enter Tryz.func150, Tryz.ntmps150
  go_wp2_with (first | (go_at_call 153; refine (signed_any _ (by assumption) _).mono ?_; rintro e w' ⟨rfl, rfl⟩) | (go_at_call 154; refine (cell_any _ _).mono ?_; rintro e w' ⟨rfl, rfl⟩) | (go_at_call 155; refine (flag_any _ _).mono ?_; rintro e w' ⟨rfl, rfl⟩) | (go_at_call 156; refine (quotient_any _ _ (by omega) _).mono ?_; rintro e w' ⟨rfl, rfl⟩) | (go_at_call 157; refine (remainder_any _ _ (by omega) _).mono ?_; rintro e w' ⟨rfl, rfl⟩))
  go_ret2
  exact ⟨ret_ib (b_38 x y hx hy) rfl, rfl⟩
set_option maxHeartbeats 400000 in
theorem bin_40 (x y : Int) (hx : C x) (hy : C y) (w : World) :
    Calls Tryz.prog 150 #[.int .i64 40, .int .u16 x, .int .u16 y] w fun e w' => e = .returned (.tuple #[.int .u16 (bi 40 x y), .bool true]) ∧ w' = w := by
  have kx := hx
  have ky := hy
  unfold C at kx ky
  go_enter Tryz.func150, Tryz.ntmps150
  go_wp2_with (first | (go_at_call 153; refine (signed_any _ (by assumption) _).mono ?_; rintro e w' ⟨rfl, rfl⟩) | (go_at_call 154; refine (cell_any _ _).mono ?_; rintro e w' ⟨rfl, rfl⟩) | (go_at_call 155; refine (flag_any _ _).mono ?_; rintro e w' ⟨rfl, rfl⟩) | (go_at_call 156; refine (quotient_any _ _ (by omega) _).mono ?_; rintro e w' ⟨rfl, rfl⟩) | (go_at_call 157; refine (remainder_any _ _ (by omega) _).mono ?_; rintro e w' ⟨rfl, rfl⟩))
  go_ret2
  exact ⟨ret_ib (b_40 x y hy) rfl, rfl⟩
set_option maxHeartbeats 400000 in
theorem bin_41 (x y : Int) (hx : C x) (hy : C y) (w : World) :
    Calls Tryz.prog 150 #[.int .i64 41, .int .u16 x, .int .u16 y] w fun e w' => e = .returned (.tuple #[.int .u16 (bi 41 x y), .bool true]) ∧ w' = w := by
  have kx := hx
  have ky := hy
  unfold C at kx ky
  go_enter Tryz.func150, Tryz.ntmps150
  go_wp2_with (first | (go_at_call 153; refine (signed_any _ (by assumption) _).mono ?_; rintro e w' ⟨rfl, rfl⟩) | (go_at_call 154; refine (cell_any _ _).mono ?_; rintro e w' ⟨rfl, rfl⟩) | (go_at_call 155; refine (flag_any _ _).mono ?_; rintro e w' ⟨rfl, rfl⟩) | (go_at_call 156; refine (quotient_any _ _ (by omega) _).mono ?_; rintro e w' ⟨rfl, rfl⟩) | (go_at_call 157; refine (remainder_any _ _ (by omega) _).mono ?_; rintro e w' ⟨rfl, rfl⟩))
  go_ret2
  exact ⟨ret_ib (b_41 x y hx) rfl, rfl⟩
set_option maxHeartbeats 400000 in
theorem bin_21 (x y : Int) (hx : C x) (hy : C y) (w : World) :
    Calls Tryz.prog 151 #[.int .i64 21, .int .u16 x, .int .u16 y] w fun e w' => e = .returned (.tuple #[.int .u16 (bi 21 x y), .bool true]) ∧ w' = w := by
  have hs := sg_range hx
  have ht := sg_range hy
  go_enter Tryz.func151, Tryz.ntmps151
  go_wp2_with (first | (go_at_call 153; refine (signed_any _ (by assumption) _).mono ?_; rintro e w' ⟨rfl, rfl⟩) | (go_at_call 154; refine (cell_any _ _).mono ?_; rintro e w' ⟨rfl, rfl⟩) | (go_at_call 155; refine (flag_any _ _).mono ?_; rintro e w' ⟨rfl, rfl⟩) | (go_at_call 156; refine (quotient_any _ _ (by omega) _).mono ?_; rintro e w' ⟨rfl, rfl⟩) | (go_at_call 157; refine (remainder_any _ _ (by omega) _).mono ?_; rintro e w' ⟨rfl, rfl⟩))
  go_ret2
  exact ⟨ret_ib (bi_21 x y) rfl, rfl⟩
set_option maxHeartbeats 400000 in
theorem bin_22 (x y : Int) (hx : C x) (hy : C y) (w : World) :
    Calls Tryz.prog 151 #[.int .i64 22, .int .u16 x, .int .u16 y] w fun e w' => e = .returned (.tuple #[.int .u16 (bi 22 x y), .bool true]) ∧ w' = w := by
  have hs := sg_range hx
  have ht := sg_range hy
  go_enter Tryz.func151, Tryz.ntmps151
  go_wp2_with (first | (go_at_call 153; refine (signed_any _ (by assumption) _).mono ?_; rintro e w' ⟨rfl, rfl⟩) | (go_at_call 154; refine (cell_any _ _).mono ?_; rintro e w' ⟨rfl, rfl⟩) | (go_at_call 155; refine (flag_any _ _).mono ?_; rintro e w' ⟨rfl, rfl⟩) | (go_at_call 156; refine (quotient_any _ _ (by omega) _).mono ?_; rintro e w' ⟨rfl, rfl⟩) | (go_at_call 157; refine (remainder_any _ _ (by omega) _).mono ?_; rintro e w' ⟨rfl, rfl⟩))
  go_ret2
  exact ⟨ret_ib (bi_22 x y) rfl, rfl⟩
set_option maxHeartbeats 400000 in
theorem bin_23 (x y : Int) (hx : C x) (hy : C y) (w : World) :
    Calls Tryz.prog 151 #[.int .i64 23, .int .u16 x, .int .u16 y] w fun e w' => e = .returned (.tuple #[.int .u16 (bi 23 x y), .bool true]) ∧ w' = w := by
  have hs := sg_range hx
  have ht := sg_range hy
  have hm := mul_range (sg x) (sg y) (by omega) (by omega)
  go_enter Tryz.func151, Tryz.ntmps151
  go_wp2_with (first | (go_at_call 153; refine (signed_any _ (by assumption) _).mono ?_; rintro e w' ⟨rfl, rfl⟩) | (go_at_call 154; refine (cell_any _ _).mono ?_; rintro e w' ⟨rfl, rfl⟩) | (go_at_call 155; refine (flag_any _ _).mono ?_; rintro e w' ⟨rfl, rfl⟩) | (go_at_call 156; refine (quotient_any _ _ (by omega) _).mono ?_; rintro e w' ⟨rfl, rfl⟩) | (go_at_call 157; refine (remainder_any _ _ (by omega) _).mono ?_; rintro e w' ⟨rfl, rfl⟩))
  go_ret2
  exact ⟨ret_ib (bi_23 x y) rfl, rfl⟩
set_option maxHeartbeats 400000 in
theorem bin_24 (x y : Int) (hx : C x) (hy : C y) (w : World) :
    Calls Tryz.prog 151 #[.int .i64 24, .int .u16 x, .int .u16 y] w fun e w' => e = .returned (.tuple #[.int .u16 (bi 24 x y), .bool true]) ∧ w' = w := by
  have hs := sg_range hx
  have ht := sg_range hy
  go_enter Tryz.func151, Tryz.ntmps151
  go_wp2_with (first | (go_at_call 153; refine (signed_any _ (by assumption) _).mono ?_; rintro e w' ⟨rfl, rfl⟩) | (go_at_call 154; refine (cell_any _ _).mono ?_; rintro e w' ⟨rfl, rfl⟩) | (go_at_call 155; refine (flag_any _ _).mono ?_; rintro e w' ⟨rfl, rfl⟩) | (go_at_call 156; refine (quotient_any _ _ (by omega) _).mono ?_; rintro e w' ⟨rfl, rfl⟩) | (go_at_call 157; refine (remainder_any _ _ (by omega) _).mono ?_; rintro e w' ⟨rfl, rfl⟩))
  go_ret2
  exact ⟨ret_ib (bi_24 x y hy) rfl, rfl⟩
set_option maxHeartbeats 400000 in
theorem bin_25 (x y : Int) (hx : C x) (hy : C y) (w : World) :
    Calls Tryz.prog 151 #[.int .i64 25, .int .u16 x, .int .u16 y] w fun e w' => e = .returned (.tuple #[.int .u16 (bi 25 x y), .bool true]) ∧ w' = w := by
  have hs := sg_range hx
  have ht := sg_range hy
  go_enter Tryz.func151, Tryz.ntmps151
  go_wp2_with (first | (go_at_call 153; refine (signed_any _ (by assumption) _).mono ?_; rintro e w' ⟨rfl, rfl⟩) | (go_at_call 154; refine (cell_any _ _).mono ?_; rintro e w' ⟨rfl, rfl⟩) | (go_at_call 155; refine (flag_any _ _).mono ?_; rintro e w' ⟨rfl, rfl⟩) | (go_at_call 156; refine (quotient_any _ _ (by omega) _).mono ?_; rintro e w' ⟨rfl, rfl⟩) | (go_at_call 157; refine (remainder_any _ _ (by omega) _).mono ?_; rintro e w' ⟨rfl, rfl⟩))
  go_ret2
  exact ⟨ret_ib (bi_25 x y hy) rfl, rfl⟩
set_option maxHeartbeats 400000 in
theorem bin_26 (x y : Int) (hx : C x) (hy : C y) (w : World) :
    Calls Tryz.prog 151 #[.int .i64 26, .int .u16 x, .int .u16 y] w fun e w' => e = .returned (.tuple #[.int .u16 (bi 26 x y), .bool true]) ∧ w' = w := by
  have hs := sg_range hx
  have ht := sg_range hy
  have kx := hx
  have ky := hy
  unfold C at kx ky
  go_enter Tryz.func151, Tryz.ntmps151
  go_wp2_with (first | (go_at_call 153; refine (signed_any _ (by assumption) _).mono ?_; rintro e w' ⟨rfl, rfl⟩) | (go_at_call 154; refine (cell_any _ _).mono ?_; rintro e w' ⟨rfl, rfl⟩) | (go_at_call 155; refine (flag_any _ _).mono ?_; rintro e w' ⟨rfl, rfl⟩) | (go_at_call 156; refine (quotient_any _ _ (by omega) _).mono ?_; rintro e w' ⟨rfl, rfl⟩) | (go_at_call 157; refine (remainder_any _ _ (by omega) _).mono ?_; rintro e w' ⟨rfl, rfl⟩))
  go_ret2
  exact ⟨ret_ib (bi_26 x y hx) rfl, rfl⟩
set_option maxHeartbeats 400000 in
theorem bin_27 (x y : Int) (hx : C x) (hy : C y) (w : World) :
    Calls Tryz.prog 151 #[.int .i64 27, .int .u16 x, .int .u16 y] w fun e w' => e = .returned (.tuple #[.int .u16 (bi 27 x y), .bool true]) ∧ w' = w := by
  have hs := sg_range hx
  have ht := sg_range hy
  have kx := hx
  have ky := hy
  unfold C at kx ky
  go_enter Tryz.func151, Tryz.ntmps151
  go_wp2_with (first | (go_at_call 153; refine (signed_any _ (by assumption) _).mono ?_; rintro e w' ⟨rfl, rfl⟩) | (go_at_call 154; refine (cell_any _ _).mono ?_; rintro e w' ⟨rfl, rfl⟩) | (go_at_call 155; refine (flag_any _ _).mono ?_; rintro e w' ⟨rfl, rfl⟩) | (go_at_call 156; refine (quotient_any _ _ (by omega) _).mono ?_; rintro e w' ⟨rfl, rfl⟩) | (go_at_call 157; refine (remainder_any _ _ (by omega) _).mono ?_; rintro e w' ⟨rfl, rfl⟩))
  go_ret2
  exact ⟨ret_ib (bi_27 x y hx) rfl, rfl⟩
set_option maxHeartbeats 400000 in
theorem bin_30l (x y : Int) (hx : C x) (hy : C y) (h : sg x ≤ sg y) (w : World) :
    Calls Tryz.prog 151 #[.int .i64 30, .int .u16 x, .int .u16 y] w fun e w' => e = .returned (.tuple #[.int .u16 (bi 30 x y), .bool true]) ∧ w' = w := by
  have hs := sg_range hx
  have ht := sg_range hy
  go_enter Tryz.func151, Tryz.ntmps151
  go_wp2_with (first | (go_at_call 153; refine (signed_any _ (by assumption) _).mono ?_; rintro e w' ⟨rfl, rfl⟩) | (go_at_call 154; refine (cell_any _ _).mono ?_; rintro e w' ⟨rfl, rfl⟩) | (go_at_call 155; refine (flag_any _ _).mono ?_; rintro e w' ⟨rfl, rfl⟩) | (go_at_call 156; refine (quotient_any _ _ (by omega) _).mono ?_; rintro e w' ⟨rfl, rfl⟩) | (go_at_call 157; refine (remainder_any _ _ (by omega) _).mono ?_; rintro e w' ⟨rfl, rfl⟩))
  go_ret2
  exact ⟨ret_ib (bi_30l x y h) rfl, rfl⟩
set_option maxHeartbeats 400000 in
theorem bin_30g (x y : Int) (hx : C x) (hy : C y) (h : sg y < sg x) (w : World) :
    Calls Tryz.prog 151 #[.int .i64 30, .int .u16 x, .int .u16 y] w fun e w' => e = .returned (.tuple #[.int .u16 (bi 30 x y), .bool true]) ∧ w' = w := by
  have hs := sg_range hx
  have ht := sg_range hy
  go_enter Tryz.func151, Tryz.ntmps151
  go_wp2_with (first | (go_at_call 153; refine (signed_any _ (by assumption) _).mono ?_; rintro e w' ⟨rfl, rfl⟩) | (go_at_call 154; refine (cell_any _ _).mono ?_; rintro e w' ⟨rfl, rfl⟩) | (go_at_call 155; refine (flag_any _ _).mono ?_; rintro e w' ⟨rfl, rfl⟩) | (go_at_call 156; refine (quotient_any _ _ (by omega) _).mono ?_; rintro e w' ⟨rfl, rfl⟩) | (go_at_call 157; refine (remainder_any _ _ (by omega) _).mono ?_; rintro e w' ⟨rfl, rfl⟩))
  go_ret2
  exact ⟨ret_ib (bi_30g x y h) rfl, rfl⟩
set_option maxHeartbeats 400000 in
theorem bin_31l (x y : Int) (hx : C x) (hy : C y) (h : sg x < sg y) (w : World) :
    Calls Tryz.prog 151 #[.int .i64 31, .int .u16 x, .int .u16 y] w fun e w' => e = .returned (.tuple #[.int .u16 (bi 31 x y), .bool true]) ∧ w' = w := by
  have hs := sg_range hx
  have ht := sg_range hy
  go_enter Tryz.func151, Tryz.ntmps151
  go_wp2_with (first | (go_at_call 153; refine (signed_any _ (by assumption) _).mono ?_; rintro e w' ⟨rfl, rfl⟩) | (go_at_call 154; refine (cell_any _ _).mono ?_; rintro e w' ⟨rfl, rfl⟩) | (go_at_call 155; refine (flag_any _ _).mono ?_; rintro e w' ⟨rfl, rfl⟩) | (go_at_call 156; refine (quotient_any _ _ (by omega) _).mono ?_; rintro e w' ⟨rfl, rfl⟩) | (go_at_call 157; refine (remainder_any _ _ (by omega) _).mono ?_; rintro e w' ⟨rfl, rfl⟩))
  go_ret2
  exact ⟨ret_ib (bi_31l x y h) rfl, rfl⟩
set_option maxHeartbeats 400000 in
theorem bin_31g (x y : Int) (hx : C x) (hy : C y) (h : sg y ≤ sg x) (w : World) :
    Calls Tryz.prog 151 #[.int .i64 31, .int .u16 x, .int .u16 y] w fun e w' => e = .returned (.tuple #[.int .u16 (bi 31 x y), .bool true]) ∧ w' = w := by
  have hs := sg_range hx
  have ht := sg_range hy
  go_enter Tryz.func151, Tryz.ntmps151
  go_wp2_with (first | (go_at_call 153; refine (signed_any _ (by assumption) _).mono ?_; rintro e w' ⟨rfl, rfl⟩) | (go_at_call 154; refine (cell_any _ _).mono ?_; rintro e w' ⟨rfl, rfl⟩) | (go_at_call 155; refine (flag_any _ _).mono ?_; rintro e w' ⟨rfl, rfl⟩) | (go_at_call 156; refine (quotient_any _ _ (by omega) _).mono ?_; rintro e w' ⟨rfl, rfl⟩) | (go_at_call 157; refine (remainder_any _ _ (by omega) _).mono ?_; rintro e w' ⟨rfl, rfl⟩))
  go_ret2
  exact ⟨ret_ib (bi_31g x y h) rfl, rfl⟩
set_option maxHeartbeats 400000 in
theorem bin_42 (x y : Int) (hx : C x) (hy : C y) (w : World) :
    Calls Tryz.prog 152 #[.int .i64 42, .int .u16 x, .int .u16 y] w fun e w' => e = .returned (.tuple #[.int .u16 (bi 42 x y), .bool true]) ∧ w' = w := by
  have hs := sg_range hx
  have ht := sg_range hy
  go_enter Tryz.func152, Tryz.ntmps152
  go_wp2_with (first | (go_at_call 153; refine (signed_any _ (by assumption) _).mono ?_; rintro e w' ⟨rfl, rfl⟩) | (go_at_call 154; refine (cell_any _ _).mono ?_; rintro e w' ⟨rfl, rfl⟩) | (go_at_call 155; refine (flag_any _ _).mono ?_; rintro e w' ⟨rfl, rfl⟩) | (go_at_call 156; refine (quotient_any _ _ (by omega) _).mono ?_; rintro e w' ⟨rfl, rfl⟩) | (go_at_call 157; refine (remainder_any _ _ (by omega) _).mono ?_; rintro e w' ⟨rfl, rfl⟩))
  go_ret2
  exact ⟨ret_ib (bi_42 x y) rfl, rfl⟩
set_option maxHeartbeats 400000 in
theorem bin_43 (x y : Int) (hx : C x) (hy : C y) (w : World) :
    Calls Tryz.prog 152 #[.int .i64 43, .int .u16 x, .int .u16 y] w fun e w' => e = .returned (.tuple #[.int .u16 (bi 43 x y), .bool true]) ∧ w' = w := by
  have hs := sg_range hx
  have ht := sg_range hy
  go_enter Tryz.func152, Tryz.ntmps152
  go_wp2_with (first | (go_at_call 153; refine (signed_any _ (by assumption) _).mono ?_; rintro e w' ⟨rfl, rfl⟩) | (go_at_call 154; refine (cell_any _ _).mono ?_; rintro e w' ⟨rfl, rfl⟩) | (go_at_call 155; refine (flag_any _ _).mono ?_; rintro e w' ⟨rfl, rfl⟩) | (go_at_call 156; refine (quotient_any _ _ (by omega) _).mono ?_; rintro e w' ⟨rfl, rfl⟩) | (go_at_call 157; refine (remainder_any _ _ (by omega) _).mono ?_; rintro e w' ⟨rfl, rfl⟩))
  go_ret2
  exact ⟨ret_ib (bi_43 x y) rfl, rfl⟩
set_option maxHeartbeats 400000 in
theorem bin_44 (x y : Int) (hx : C x) (hy : C y) (w : World) :
    Calls Tryz.prog 152 #[.int .i64 44, .int .u16 x, .int .u16 y] w fun e w' => e = .returned (.tuple #[.int .u16 (bi 44 x y), .bool true]) ∧ w' = w := by
  have hs := sg_range hx
  have ht := sg_range hy
  go_enter Tryz.func152, Tryz.ntmps152
  go_wp2_with (first | (go_at_call 153; refine (signed_any _ (by assumption) _).mono ?_; rintro e w' ⟨rfl, rfl⟩) | (go_at_call 154; refine (cell_any _ _).mono ?_; rintro e w' ⟨rfl, rfl⟩) | (go_at_call 155; refine (flag_any _ _).mono ?_; rintro e w' ⟨rfl, rfl⟩) | (go_at_call 156; refine (quotient_any _ _ (by omega) _).mono ?_; rintro e w' ⟨rfl, rfl⟩) | (go_at_call 157; refine (remainder_any _ _ (by omega) _).mono ?_; rintro e w' ⟨rfl, rfl⟩))
  go_ret2
  exact ⟨ret_ib (bi_44 x y) rfl, rfl⟩
set_option maxHeartbeats 400000 in
theorem bin_45 (x y : Int) (hx : C x) (hy : C y) (w : World) :
    Calls Tryz.prog 152 #[.int .i64 45, .int .u16 x, .int .u16 y] w fun e w' => e = .returned (.tuple #[.int .u16 (bi 45 x y), .bool true]) ∧ w' = w := by
  have hs := sg_range hx
  have ht := sg_range hy
  go_enter Tryz.func152, Tryz.ntmps152
  go_wp2_with (first | (go_at_call 153; refine (signed_any _ (by assumption) _).mono ?_; rintro e w' ⟨rfl, rfl⟩) | (go_at_call 154; refine (cell_any _ _).mono ?_; rintro e w' ⟨rfl, rfl⟩) | (go_at_call 155; refine (flag_any _ _).mono ?_; rintro e w' ⟨rfl, rfl⟩) | (go_at_call 156; refine (quotient_any _ _ (by omega) _).mono ?_; rintro e w' ⟨rfl, rfl⟩) | (go_at_call 157; refine (remainder_any _ _ (by omega) _).mono ?_; rintro e w' ⟨rfl, rfl⟩))
  go_ret2
  exact ⟨ret_ib (bi_45 x y) rfl, rfl⟩
set_option maxHeartbeats 400000 in
theorem bin_46 (x y : Int) (hx : C x) (hy : C y) (w : World) :
    Calls Tryz.prog 152 #[.int .i64 46, .int .u16 x, .int .u16 y] w fun e w' => e = .returned (.tuple #[.int .u16 (bi 46 x y), .bool true]) ∧ w' = w := by
  have hs := sg_range hx
  have ht := sg_range hy
  have kx := hx
  have ky := hy
  unfold C at kx ky
  go_enter Tryz.func152, Tryz.ntmps152
  go_wp2_with (first | (go_at_call 153; refine (signed_any _ (by assumption) _).mono ?_; rintro e w' ⟨rfl, rfl⟩) | (go_at_call 154; refine (cell_any _ _).mono ?_; rintro e w' ⟨rfl, rfl⟩) | (go_at_call 155; refine (flag_any _ _).mono ?_; rintro e w' ⟨rfl, rfl⟩) | (go_at_call 156; refine (quotient_any _ _ (by omega) _).mono ?_; rintro e w' ⟨rfl, rfl⟩) | (go_at_call 157; refine (remainder_any _ _ (by omega) _).mono ?_; rintro e w' ⟨rfl, rfl⟩))
  go_ret2
  exact ⟨ret_ib (bi_46 x y) rfl, rfl⟩
set_option maxHeartbeats 400000 in
theorem bin_47 (x y : Int) (hx : C x) (hy : C y) (w : World) :
    Calls Tryz.prog 152 #[.int .i64 47, .int .u16 x, .int .u16 y] w fun e w' => e = .returned (.tuple #[.int .u16 (bi 47 x y), .bool true]) ∧ w' = w := by
  have hs := sg_range hx
  have ht := sg_range hy
  have kx := hx
  have ky := hy
  unfold C at kx ky
  go_enter Tryz.func152, Tryz.ntmps152
  go_wp2_with (first | (go_at_call 153; refine (signed_any _ (by assumption) _).mono ?_; rintro e w' ⟨rfl, rfl⟩) | (go_at_call 154; refine (cell_any _ _).mono ?_; rintro e w' ⟨rfl, rfl⟩) | (go_at_call 155; refine (flag_any _ _).mono ?_; rintro e w' ⟨rfl, rfl⟩) | (go_at_call 156; refine (quotient_any _ _ (by omega) _).mono ?_; rintro e w' ⟨rfl, rfl⟩) | (go_at_call 157; refine (remainder_any _ _ (by omega) _).mono ?_; rintro e w' ⟨rfl, rfl⟩))
  go_ret2
  exact ⟨ret_ib (bi_47 x y) rfl, rfl⟩
set_option maxHeartbeats 400000 in
theorem bit_no (op x y : Int) (h : isBit op = false) (w : World) :
    Calls Tryz.prog 150 #[.int .i64 op, .int .u16 x, .int .u16 y] w fun e w' => e = .returned (.tuple #[.int .u16 0, .bool false]) ∧ w' = w := by
  simp only [isBit, Bool.or_eq_false_iff] at h
  obtain ⟨⟨⟨⟨e0, e1⟩, e2⟩, e3⟩, e4⟩ := h
  go_enter Tryz.func150, Tryz.ntmps150
  go_wp2_with (first | (go_at_call 153; refine (signed_any _ (by assumption) _).mono ?_; rintro e w' ⟨rfl, rfl⟩) | (go_at_call 154; refine (cell_any _ _).mono ?_; rintro e w' ⟨rfl, rfl⟩) | (go_at_call 155; refine (flag_any _ _).mono ?_; rintro e w' ⟨rfl, rfl⟩) | (go_at_call 156; refine (quotient_any _ _ (by omega) _).mono ?_; rintro e w' ⟨rfl, rfl⟩) | (go_at_call 157; refine (remainder_any _ _ (by omega) _).mono ?_; rintro e w' ⟨rfl, rfl⟩))
  go_ret2
  exact ⟨rfl, rfl⟩
set_option maxHeartbeats 400000 in
theorem ari_no (op x y : Int) (hx : C x) (hy : C y) (h : isAri op = false) (w : World) :
    Calls Tryz.prog 151 #[.int .i64 op, .int .u16 x, .int .u16 y] w fun e w' => e = .returned (.tuple #[.int .u16 0, .bool false]) ∧ w' = w := by
  simp only [isAri, Bool.or_eq_false_iff] at h
  obtain ⟨⟨⟨⟨⟨⟨⟨⟨e0, e1⟩, e2⟩, e3⟩, e4⟩, e5⟩, e6⟩, e7⟩, e8⟩ := h
  go_enter Tryz.func151, Tryz.ntmps151
  go_wp2_with (first | (go_at_call 153; refine (signed_any _ (by assumption) _).mono ?_; rintro e w' ⟨rfl, rfl⟩) | (go_at_call 154; refine (cell_any _ _).mono ?_; rintro e w' ⟨rfl, rfl⟩) | (go_at_call 155; refine (flag_any _ _).mono ?_; rintro e w' ⟨rfl, rfl⟩) | (go_at_call 156; refine (quotient_any _ _ (by omega) _).mono ?_; rintro e w' ⟨rfl, rfl⟩) | (go_at_call 157; refine (remainder_any _ _ (by omega) _).mono ?_; rintro e w' ⟨rfl, rfl⟩))
  go_ret2
  exact ⟨rfl, rfl⟩
set_option maxHeartbeats 400000 in
theorem cmp_no (op x y : Int) (hx : C x) (hy : C y) (h : isCmp op = false) (w : World) :
    Calls Tryz.prog 152 #[.int .i64 op, .int .u16 x, .int .u16 y] w fun e w' => e = .returned (.tuple #[.int .u16 0, .bool false]) ∧ w' = w := by
  simp only [isCmp, Bool.or_eq_false_iff] at h
  obtain ⟨⟨⟨⟨⟨e0, e1⟩, e2⟩, e3⟩, e4⟩, e5⟩ := h
  go_enter Tryz.func152, Tryz.ntmps152
  go_wp2_with (first | (go_at_call 153; refine (signed_any _ (by assumption) _).mono ?_; rintro e w' ⟨rfl, rfl⟩) | (go_at_call 154; refine (cell_any _ _).mono ?_; rintro e w' ⟨rfl, rfl⟩) | (go_at_call 155; refine (flag_any _ _).mono ?_; rintro e w' ⟨rfl, rfl⟩) | (go_at_call 156; refine (quotient_any _ _ (by omega) _).mono ?_; rintro e w' ⟨rfl, rfl⟩) | (go_at_call 157; refine (remainder_any _ _ (by omega) _).mono ?_; rintro e w' ⟨rfl, rfl⟩))
  go_ret2
  exact ⟨rfl, rfl⟩
theorem bit_yes (op x y : Int) (hx : C x) (hy : C y) (h : isBit op = true) (w : World) :
    Calls Tryz.prog 150 #[.int .i64 op, .int .u16 x, .int .u16 y] w fun e w' => e = .returned (.tuple #[.int .u16 (bi op x y), .bool true]) ∧ w' = w := by
  simp only [isBit, Bool.or_eq_true, beq_iff_eq] at h
  rcases h with (((h | h) | h) | h) | h <;> subst h
  · exact bin_36 x y hx hy w
  · exact bin_37 x y hx hy w
  · exact bin_38 x y hx hy w
  · exact bin_40 x y hx hy w
  · exact bin_41 x y hx hy w
theorem ari_yes (op x y : Int) (hx : C x) (hy : C y) (h : isAri op = true) (w : World) :
    Calls Tryz.prog 151 #[.int .i64 op, .int .u16 x, .int .u16 y] w fun e w' => e = .returned (.tuple #[.int .u16 (bi op x y), .bool true]) ∧ w' = w := by
  simp only [isAri, Bool.or_eq_true, beq_iff_eq] at h
  rcases h with (((((((h | h) | h) | h) | h) | h) | h) | h) | h <;> subst h
  · exact bin_22 x y hx hy w
  · exact bin_21 x y hx hy w
  · exact bin_23 x y hx hy w
  · exact bin_26 x y hx hy w
  · exact bin_24 x y hx hy w
  · exact bin_27 x y hx hy w
  · exact bin_25 x y hx hy w
  · by_cases k : sg y < sg x
    · exact bin_30g x y hx hy k w
    · exact bin_30l x y hx hy (by omega) w
  · by_cases k : sg x < sg y
    · exact bin_31l x y hx hy k w
    · exact bin_31g x y hx hy (by omega) w
theorem cmp_yes (op x y : Int) (hx : C x) (hy : C y) (h : isCmp op = true) (w : World) :
    Calls Tryz.prog 152 #[.int .i64 op, .int .u16 x, .int .u16 y] w fun e w' => e = .returned (.tuple #[.int .u16 (bi op x y), .bool true]) ∧ w' = w := by
  simp only [isCmp, Bool.or_eq_true, beq_iff_eq] at h
  rcases h with ((((h | h) | h) | h) | h) | h <;> subst h
  · exact bin_42 x y hx hy w
  · exact bin_43 x y hx hy w
  · exact bin_46 x y hx hy w
  · exact bin_44 x y hx hy w
  · exact bin_47 x y hx hy w
  · exact bin_45 x y hx hy w
set_option maxHeartbeats 400000 in
theorem binary_any (op x y : Int) (hx : C x) (hy : C y) (w : World) :
    Calls Tryz.prog 143 #[.int .i64 op, .int .u16 x, .int .u16 y] w fun e w' => e = .returned (.tuple #[.int .u16 (bi op x y), .bool (isBi op)]) ∧ w' = w := by
  cases h : isBit op
  · cases k : isAri op
    · cases l : isCmp op
      · have hz : Hid ((0 : Int) = bi op x y) := bi_no op x y (isBi_none h k l)
        have hf : Hid (isBi op = false) := isBi_none h k l
        have H : Hid (isBit op = false) := h
        have K : Hid (isAri op = false) := k
        have L : Hid (isCmp op = false) := l
        clear h k l
        go_enter Tryz.func143, Tryz.ntmps143
        go_wp2_with (first | (go_at_call 150; refine (bit_no _ _ _ H.out _).mono ?_; rintro e w' ⟨rfl, rfl⟩) | (go_at_call 151; refine (ari_no _ _ _ hx hy K.out _).mono ?_; rintro e w' ⟨rfl, rfl⟩) | (go_at_call 152; refine (cmp_no _ _ _ hx hy L.out _).mono ?_; rintro e w' ⟨rfl, rfl⟩))
        go_ret2
        exact ⟨ret_ib hz.out hf.out.symm, rfl⟩
      · have hf : Hid (isBi op = true) := isBi_cmp l
        have H : Hid (isBit op = false) := h
        have K : Hid (isAri op = false) := k
        have L : Hid (isCmp op = true) := l
        clear h k l
        go_enter Tryz.func143, Tryz.ntmps143
        go_wp2_with (first | (go_at_call 150; refine (bit_no _ _ _ H.out _).mono ?_; rintro e w' ⟨rfl, rfl⟩) | (go_at_call 151; refine (ari_no _ _ _ hx hy K.out _).mono ?_; rintro e w' ⟨rfl, rfl⟩) | (go_at_call 152; refine (cmp_yes _ _ _ hx hy L.out _).mono ?_; rintro e w' ⟨rfl, rfl⟩))
        go_ret2
        exact ⟨ret_ib rfl hf.out.symm, rfl⟩
    · have hf : Hid (isBi op = true) := isBi_ari k
      have H : Hid (isBit op = false) := h
      have K : Hid (isAri op = true) := k
      clear h k
      go_enter Tryz.func143, Tryz.ntmps143
      go_wp2_with (first | (go_at_call 150; refine (bit_no _ _ _ H.out _).mono ?_; rintro e w' ⟨rfl, rfl⟩) | (go_at_call 151; refine (ari_yes _ _ _ hx hy K.out _).mono ?_; rintro e w' ⟨rfl, rfl⟩))
      go_ret2
      exact ⟨ret_ib rfl hf.out.symm, rfl⟩
  · have hf : Hid (isBi op = true) := isBi_bit h
    have H : Hid (isBit op = true) := h
    clear h
    go_enter Tryz.func143, Tryz.ntmps143
    go_wp2_with (first | (go_at_call 150; refine (bit_yes _ _ _ hx hy H.out _).mono ?_; rintro e w' ⟨rfl, rfl⟩))
    go_ret2
    exact ⟨ret_ib rfl hf.out.symm, rfl⟩
end Go.Proofs.YtgponcjjnjpfkabGreat.C
/-! What a plain primitive does: put, save. -/
namespace Go.Proofs.YtgponcjjnjpfkabGreat.P
open Go.RowKit
open Go.Proofs
set_option linter.unusedVariables false
set_option linter.unusedSimpArgs false
set_option maxHeartbeats 1000000
set_option maxRecDepth 100000
theorem tcS {F : Nat → Prop} {W W' : World} (h : M.Tc F W W') : S.Tc F W W' := ⟨h.os, h.tape, h.output, h.size, h.block⟩
theorem tcM {F : Nat → Prop} {W W' : World} (h : S.Tc F W W') : M.Tc F W W' := ⟨h.os, h.tape, h.output, h.size, h.block⟩
/-- A call at the block b, and new blocks ahead of it. -/
theorem at_alloc {b : Nat} {W W' : World} (o : Obj) (h : S.At b (W.alloc o) W') : S.At b W W' :=
  ⟨h.os, h.tape, h.output, Nat.le_trans (by simp) h.size, fun k hk hn => (h.block k (by simp; omega) hn).trans (Below.heap_alloc W o k hk)⟩
theorem bel_alloc (W : World) (o : Obj) : Below W.heap.size W (W.alloc o) := (Below.refl _ W).alloc (Nat.le_refl _) _
theorem put_any (op x y z s : Int) (bd br bm : Nat) (D xs : List Int) (p : Option Addr) (c : Nat) (W : World) (h : S.HasD W bd D) (hx : S.Sl S.eU 1 W p xs) (hl : D.length + xs.length ≤ 256) :
    Calls Tryz.prog 108 #[.agg #[.int .i64 op, .int .u16 x, .int .u16 y, .int .u16 z, .int .u16 s, .pointer (some ⟨bd, 0, none⟩), .pointer (some ⟨br, 0, none⟩), .pointer (some ⟨bm, 0, none⟩)], .slice p xs.length c] W fun e W' => e = .returned (.tuple #[]) ∧ S.HasD W' bd (D ++ xs) ∧ S.At bd W W' := by
  have hb := bel_alloc W (.cells #[.int .i64 op, .int .u16 x, .int .u16 y, .int .u16 z, .int .u16 s, .pointer (some ⟨bd, 0, none⟩), .pointer (some ⟨br, 0, none⟩), .pointer (some ⟨bm, 0, none⟩)] 129)
  have hp := S.dpush_yes bd D xs p c _ (h.below hb) (hx.below hb) hl
  clear hb
  go_enter Tryz.func108, Tryz.ntmps108
  go_wp2_with fail
  refine hp.mono ?_
  rintro e w1 ⟨rfl, h1, h2⟩
  go_wp2
  go_end0
  exact ⟨rfl, h1, at_alloc _ h2⟩
theorem save_any (op x y z s : Int) (bd br bm : Nat) (R xs : List (Int × Int)) (p : Option Addr) (c : Nat) (W : World) (h : S.HasR W br R) (hx : S.Sl S.eK 2 W p xs) (hl : R.length + xs.length ≤ 128) :
    Calls Tryz.prog 105 #[.agg #[.int .i64 op, .int .u16 x, .int .u16 y, .int .u16 z, .int .u16 s, .pointer (some ⟨bd, 0, none⟩), .pointer (some ⟨br, 0, none⟩), .pointer (some ⟨bm, 0, none⟩)], .slice p xs.length c] W fun e W' => e = .returned (.tuple #[]) ∧ S.HasR W' br (R ++ xs) ∧ S.At br W W' := by
  have hb := bel_alloc W (.cells #[.int .i64 op, .int .u16 x, .int .u16 y, .int .u16 z, .int .u16 s, .pointer (some ⟨bd, 0, none⟩), .pointer (some ⟨br, 0, none⟩), .pointer (some ⟨bm, 0, none⟩)] 129)
  have hp := S.rpush_yes br R xs p c _ (h.below hb) (hx.below hb) hl
  clear hb
  go_enter Tryz.func105, Tryz.ntmps105
  go_wp2_with fail
  refine hp.mono ?_
  rintro e w1 ⟨rfl, h1, h2⟩
  go_wp2
  go_end0
  exact ⟨rfl, h1, at_alloc _ h2⟩
theorem sl_block {α : Type} {e : α → List Value} {s : Nat} (hs : ∀ a, (e a).length = s) (W : World) (b : Nat) (t : TypeId) (l : List α) (h : W.heap[b]? = some (.cells (S.en e l).toArray t (0, 0))) : S.Sl e s W (some ⟨b, 0, none⟩) l := by
  intro i a hi
  refine ⟨b, 0, rfl, fun j u hj => S.cell_of W b _ _ t _ h ?_⟩
  have hj' : j < s := by rw [← hs a]; exact (List.getElem?_eq_some_iff.1 hj).1
  rw [Nat.zero_add, S.en_get hs l i j a hi hj']; exact hj
/-- Both stacks and the memory of the program. -/
structure PS (W : World) (bd br bm : Nat) (F : Nat → Prop) (D : List Int) (R : List (Int × Int)) (m : M.MS) : Prop where
  d : S.HasD W bd D
  r : S.HasR W br R
  m : M.HasM W F bm m
  dr : bd ≠ br
  fd : ¬ F bd
  fr : ¬ F br
def TP (bd br : Nat) (F : Nat → Prop) (k : Nat) : Prop := k = bd ∨ k = br ∨ F k
/-- What a call leaves of them. -/
structure PD (W W' : World) (bd br bm : Nat) (F : Nat → Prop) (D : List Int) (R : List (Int × Int)) (m : M.MS) : Prop where
  s : PS W' bd br bm (M.gr F W W') D R m
  t : S.Tc (TP bd br F) W W'
section
variable {W W1 W' : World} {bd br bm : Nat} {F : Nat → Prop} {D D' : List Int} {R R' : List (Int × Int)} {m m' : M.MS}
theorem PS.below (h : PS W bd br bm F D R m) (k : Below W.heap.size W W') : PS W' bd br bm F D R m :=
  ⟨h.d.below k, h.r.below k, h.m.kept fun i hi _ => k.block i hi, h.dr, h.fd, h.fr⟩
theorem PS.mono {G : Nat → Prop} (h : PS W bd br bm F D R m) (k : ∀ i, i < W.heap.size → (F i → G i) ∧ (i = bd ∨ i = br → ¬ G i)) : PS W bd br bm G D R m :=
  ⟨h.d, h.r, h.m.mono fun i hi => (k i hi).1, h.dr, (k _ (S.lt_of h.d.1)).2 (.inl rfl), (k _ (S.lt_of h.r.1)).2 (.inr rfl)⟩
theorem PS.gr (h : PS W bd br bm F D R m) (w w' : World) (h1 : bd < w.heap.size) (h2 : br < w.heap.size) : PS W bd br bm (M.gr F w w') D R m :=
  h.mono fun i _ => ⟨.inl, fun e => by
    rintro (g | ⟨g, _⟩)
    · rcases e with rfl | rfl
      · exact h.fd g
      · exact h.fr g
    · rcases e with rfl | rfl <;> omega⟩
theorem PS.same (h : PS W bd br bm F D R m) (k : Below W.heap.size W W') : PD W W' bd br bm F D R m :=
  ⟨(h.below k).gr W W' (S.lt_of h.d.1) (S.lt_of h.r.1), ⟨k.os, k.tape, k.output, k.size, fun i hi _ => k.block i hi⟩⟩
theorem PS.put (h : PS W bd br bm F D R m) (h1 : S.HasD W' bd D') (t : S.At bd W W') : PD W W' bd br bm F D' R m :=
  ⟨PS.gr ⟨h1, h.r.kept (t.block _ (S.lt_of h.r.1) (Ne.symm h.dr)), h.m.kept (fun i hi f => t.block i hi (by rintro rfl; exact h.fd f)), h.dr, h.fd, h.fr⟩ W W' (S.lt_of h.d.1) (S.lt_of h.r.1),
    ⟨t.os, t.tape, t.output, t.size, fun i hi n => t.block i hi fun e => n (.inl e)⟩⟩
theorem PS.save (h : PS W bd br bm F D R m) (h1 : S.HasR W' br R') (t : S.At br W W') : PD W W' bd br bm F D R' m :=
  ⟨PS.gr ⟨h.d.kept (t.block _ (S.lt_of h.d.1) h.dr), h1, h.m.kept (fun i hi f => t.block i hi (by rintro rfl; exact h.fr f)), h.dr, h.fd, h.fr⟩ W W' (S.lt_of h.d.1) (S.lt_of h.r.1),
    ⟨t.os, t.tape, t.output, t.size, fun i hi n => t.block i hi fun e => n (.inr (.inl e))⟩⟩
theorem PS.mem (h : PS W bd br bm F D R m) (k : M.Done W W' F bm m') : PD W W' bd br bm F D R m' :=
  ⟨⟨h.d.kept (k.2.block _ (S.lt_of h.d.1) h.fd), h.r.kept (k.2.block _ (S.lt_of h.r.1) h.fr), k.1, h.dr,
      fun g => by rcases g with g | ⟨g, _⟩; exact h.fd g; have := S.lt_of h.d.1; omega, fun g => by rcases g with g | ⟨g, _⟩; exact h.fr g; have := S.lt_of h.r.1; omega⟩,
    ⟨k.2.os, k.2.tape, k.2.output, k.2.size, fun i hi n => k.2.block i hi fun e => n (.inr (.inr e))⟩⟩
theorem PD.trans (a : PD W W1 bd br bm F D R m) (b : PD W1 W' bd br bm (M.gr F W W1) D' R' m') : PD W W' bd br bm F D' R' m' :=
  ⟨⟨b.s.d, b.s.r, b.s.m.mono fun i hi g => by
      rcases g with (g | ⟨g, _⟩) | ⟨g, g2⟩
      · exact .inl g
      · exact .inr ⟨g, hi⟩
      · exact .inr ⟨Nat.le_trans a.t.size g, g2⟩,
    b.s.dr, fun g => b.s.fd (by rcases g with g | ⟨g, g2⟩; exact .inl (.inl g); exact (b.s.fd (.inr ⟨by by_cases c : bd < W1.heap.size; exact absurd (.inl (.inr ⟨g, c⟩)) b.s.fd; omega, g2⟩)).elim),
    fun g => b.s.fr (by rcases g with g | ⟨g, g2⟩; exact .inl (.inl g); exact (b.s.fr (.inr ⟨by by_cases c : br < W1.heap.size; exact absurd (.inl (.inr ⟨g, c⟩)) b.s.fr; omega, g2⟩)).elim)⟩,
   a.t.trans b.t (fun i e => e) (fun i hi e => by
      rcases e with e | e | e | ⟨e, _⟩
      · exact .inl e
      · exact .inr (.inl e)
      · exact .inr (.inr e)
      · omega)⟩
/-- Blocks were laid ahead. -/
theorem PD.ahead (h1 : bd < W.heap.size) (h2 : br < W.heap.size) (k : Below W.heap.size W W1) (b : PD W1 W' bd br bm F D R m) : PD W W' bd br bm F D R m :=
  ⟨b.s.mono fun i hi => ⟨fun g => by
      rcases g with g | ⟨g, g2⟩
      · exact .inl g
      · exact .inr ⟨Nat.le_trans k.size g, g2⟩, fun e => by
      rintro (g | ⟨g, _⟩)
      · rcases e with rfl | rfl
        · exact b.s.fd (.inl g)
        · exact b.s.fr (.inl g)
      · rcases e with rfl | rfl <;> omega⟩, ⟨b.t.os.trans k.os, b.t.tape.trans k.tape, b.t.output.trans k.output, Nat.le_trans k.size b.t.size, fun i hi n => (b.t.block i (Nat.lt_of_lt_of_le hi k.size) n).trans (k.block i hi)⟩⟩
theorem PD.wk {G : Nat → Prop} (b : PD W W' bd br bm G D R m) (k : ∀ i, G i → F i) (h1 : ¬ F bd) (h2 : ¬ F br) (l1 : bd < W.heap.size) (l2 : br < W.heap.size) : PD W W' bd br bm F D R m :=
  ⟨b.s.mono fun i hi => ⟨fun g => g.imp (k i) id, fun e => by
      rintro (g | ⟨g, _⟩)
      · rcases e with rfl | rfl
        · exact h1 g
        · exact h2 g
      · rcases e with rfl | rfl <;> omega⟩,
    ⟨b.t.os, b.t.tape, b.t.output, b.t.size, fun i hi n => b.t.block i hi fun e => n (by rcases e with e | e | e; exact .inl e; exact .inr (.inl e); exact .inr (.inr (k i e)))⟩⟩
theorem PS.cut (h : PS W bd br bm F D R m) : PS W bd br bm (fun k => F k ∧ k < W.heap.size) D R m :=
  h.mono fun i hi => ⟨fun f => ⟨f, hi⟩, fun e g => by
    rcases e with rfl | rfl
    · exact h.fd g.1
    · exact h.fr g.1⟩
end
end Go.Proofs.YtgponcjjnjpfkabGreat.P
/-! take; look. -/
namespace Go.Proofs.YtgponcjjnjpfkabGreat.P
open Go.RowKit
open Go.Proofs
set_option linter.unusedVariables false
set_option linter.unusedSimpArgs false
set_option maxHeartbeats 2000000
set_option maxRecDepth 100000
theorem size3 : (Tryz.prog.info? 126).map (·.size) = some 3 := by kernel_rfl
/-- The stages of take at 0. -/
def tk0 (bd : Nat) (D : List Int) (W : World) (i : Value) (wr : World) : Prop :=
  ((i = .int .i64 (-1) ∧ S.HasD wr bd (D) ∧ wr.heap[W.heap.size + 1]? = some (.cells [.int .u16 0, .int .u16 0, .int .u16 0].toArray 126 (0, 0)))) ∧ wr.heap[W.heap.size]? = some (.cells [.int .u16 0, .int .u16 0, .int .u16 0].toArray 126 (0, 0)) ∧ S.At bd W wr
theorem take_0 (bd : Nat) (D : List Int) (W : World) (h : S.HasD W bd (D)) :
    Calls Tryz.prog 48 #[.pointer (some ⟨bd, 0, none⟩), .int .i64 0] W fun e W' => e = .returned (.agg #[.int .u16 0, .int .u16 0, .int .u16 0]) ∧ S.HasD W' bd D ∧ S.At bd W W' := by
  obtain ⟨w0, hw0⟩ : ∃ w0, (W.alloc (.cells #[.int .u16 0, .int .u16 0, .int .u16 0] 126)).alloc (.cells #[.int .u16 0, .int .u16 0, .int .u16 0] 126) = w0 := ⟨_, rfl⟩
  have hb : Below W.heap.size W w0 := by rw [← hw0]; exact ((Below.refl _ W).alloc (Nat.le_refl _) _).alloc (by simp) _
  have r0 : w0.heap[W.heap.size]? = some (.cells [.int .u16 0, .int .u16 0, .int .u16 0].toArray 126 (0, 0)) := by rw [← hw0]; exact (Below.heap_alloc _ _ _ (by simp)).trans (heap_alloc_new W _)
  have r1 : w0.heap[W.heap.size + 1]? = some (.cells [.int .u16 0, .int .u16 0, .int .u16 0].toArray 126 (0, 0)) := by rw [← hw0]; exact heap_alloc2_new W _ _
  have hlt := S.lt_of h.1
  have T0 : tk0 bd D  W (.int .i64 (-1)) w0 := ⟨⟨rfl, h.below hb, r1⟩, r0, hb.os, hb.tape, hb.output, hb.size, fun k hk _ => hb.block k hk⟩
  clear hb r0 r1
  have T := S.hid T0
  clear T0
  go_enter Tryz.func48, Tryz.ntmps48
  go_wp2
  go_loopw [6] (fun i wr => tk0 bd D  W i wr) (fun i _ => ((intOf i) + 1).toNat)
  case atStart => exact T.out
  case round =>
    clear T
    obtain ⟨hc, r0, ht⟩ := hrel
    obtain ⟨rfl, hd, r1⟩ := hc
    have hx := setRow_heap wr W.heap.size _ [.int .u16 0, .int .u16 0, .int .u16 0].toArray _ _ r0
    have ht2 : S.At bd W (wr.setRow W.heap.size [.int .u16 0, .int .u16 0, .int .u16 0].toArray) := ⟨ht.os, ht.tape, ht.output, by rw [setRow_size]; exact ht.size, fun k hk hn => (setRow_other wr _ k _ (by omega)).trans (ht.block k hk hn)⟩
    have hd2 : S.HasD (wr.setRow W.heap.size [.int .u16 0, .int .u16 0, .int .u16 0].toArray) bd D := hd.kept (setRow_other wr _ _ _ (by omega))
    go_wp2_with (first | (refine wpList_load_row rfl 126 _ rfl (W.heap.size + 1) rfl 126 _ (0, 0) _ r1 Tryz.underlying126 rfl (by exact size3) ?_) | (refine wpList_store_row rfl 126 _ _ rfl W.heap.size _ rfl rfl 126 _ r0 (by exact size3) (by rfl) (by simp [Value.oneCell']) ?_))
    refine bodyPost_ret (results_cell_row rfl _ _ W.heap.size 126 _ (0, 0) _ rfl hx Tryz.underlying126 rfl size3) rfl ⟨rfl, hd2, ht2⟩
/-- The stages of take at 1. -/
def tk1 (bd : Nat) (D : List Int) (x : Int) (W : World) (i : Value) (wr : World) : Prop :=
  ((i = .int .i64 (-1) ∧ S.HasD wr bd (D) ∧ wr.heap[W.heap.size + 1]? = some (.cells [.int .u16 x, .int .u16 0, .int .u16 0].toArray 126 (0, 0))) ∨
  (i = .int .i64 (0) ∧ S.HasD wr bd (D ++ [x]) ∧ wr.heap[W.heap.size + 1]? = some (.cells [.int .u16 0, .int .u16 0, .int .u16 0].toArray 126 (0, 0)))) ∧ wr.heap[W.heap.size]? = some (.cells [.int .u16 0, .int .u16 0, .int .u16 0].toArray 126 (0, 0)) ∧ S.At bd W wr
theorem take_1 (bd : Nat) (D : List Int) (x : Int) (W : World) (h : S.HasD W bd (D ++ [x])) :
    Calls Tryz.prog 48 #[.pointer (some ⟨bd, 0, none⟩), .int .i64 1] W fun e W' => e = .returned (.agg #[.int .u16 x, .int .u16 0, .int .u16 0]) ∧ S.HasD W' bd D ∧ S.At bd W W' := by
  obtain ⟨w0, hw0⟩ : ∃ w0, (W.alloc (.cells #[.int .u16 0, .int .u16 0, .int .u16 0] 126)).alloc (.cells #[.int .u16 0, .int .u16 0, .int .u16 0] 126) = w0 := ⟨_, rfl⟩
  have hb : Below W.heap.size W w0 := by rw [← hw0]; exact ((Below.refl _ W).alloc (Nat.le_refl _) _).alloc (by simp) _
  have r0 : w0.heap[W.heap.size]? = some (.cells [.int .u16 0, .int .u16 0, .int .u16 0].toArray 126 (0, 0)) := by rw [← hw0]; exact (Below.heap_alloc _ _ _ (by simp)).trans (heap_alloc_new W _)
  have r1 : w0.heap[W.heap.size + 1]? = some (.cells [.int .u16 0, .int .u16 0, .int .u16 0].toArray 126 (0, 0)) := by rw [← hw0]; exact heap_alloc2_new W _ _
  have hlt := S.lt_of h.1
  have T0 : tk1 bd D x W (.int .i64 (0)) w0 := ⟨.inr (⟨rfl, h.below hb, r1⟩), r0, hb.os, hb.tape, hb.output, hb.size, fun k hk _ => hb.block k hk⟩
  clear hb r0 r1
  have T := S.hid T0
  clear T0
  go_enter Tryz.func48, Tryz.ntmps48
  go_wp2
  go_loopw [6] (fun i wr => tk1 bd D x W i wr) (fun i _ => ((intOf i) + 1).toNat)
  case atStart => exact T.out
  case round =>
    clear T
    obtain ⟨hc, r0, ht⟩ := hrel
    rcases hc with ⟨rfl, hd, r1⟩ | ⟨rfl, hd, r1⟩
    · have hx := setRow_heap wr W.heap.size _ [.int .u16 x, .int .u16 0, .int .u16 0].toArray _ _ r0
      have ht2 : S.At bd W (wr.setRow W.heap.size [.int .u16 x, .int .u16 0, .int .u16 0].toArray) := ⟨ht.os, ht.tape, ht.output, by rw [setRow_size]; exact ht.size, fun k hk hn => (setRow_other wr _ k _ (by omega)).trans (ht.block k hk hn)⟩
      have hd2 : S.HasD (wr.setRow W.heap.size [.int .u16 x, .int .u16 0, .int .u16 0].toArray) bd D := hd.kept (setRow_other wr _ _ _ (by omega))
      go_wp2_with (first | (refine wpList_load_row rfl 126 _ rfl (W.heap.size + 1) rfl 126 _ (0, 0) _ r1 Tryz.underlying126 rfl (by exact size3) ?_) | (refine wpList_store_row rfl 126 _ _ rfl W.heap.size _ rfl rfl 126 _ r0 (by exact size3) (by rfl) (by simp [Value.oneCell']) ?_))
      refine bodyPost_ret (results_cell_row rfl _ _ W.heap.size 126 _ (0, 0) _ rfl hx Tryz.underlying126 rfl size3) rfl ⟨rfl, hd2, ht2⟩
    · have hd0 : S.HasD wr bd ((D) ++ [x]) := by simpa using hd
      have hp := S.dpop bd (D) x wr hd0
      go_wp2_with fail
      refine hp.mono ?_
      rintro e w2 ⟨rfl, hd2, ht2⟩
      have q0 : w2.heap[W.heap.size]? = _ := (ht2.block _ (S.lt_of r0) (by omega)).trans r0
      have q1 : w2.heap[W.heap.size + 1]? = _ := (ht2.block _ (S.lt_of r1) (by omega)).trans r1
      have c1 := S.cell_of w2 (W.heap.size + 1) 0 _ 126 _ q1 rfl
      have z1 := S.frozen_of w2 (W.heap.size + 1) 0 _ 126 q1
      have q2 : (w2.setCell ⟨W.heap.size + 1, 0, none⟩ (.int .u16 x)).heap[W.heap.size + 1]? = some (.cells [.int .u16 x, .int .u16 0, .int .u16 0].toArray 126 (0, 0)) := S.setCell_heap w2 (W.heap.size + 1) 0 _ 126 _ q1
      have q3 : (w2.setCell ⟨W.heap.size + 1, 0, none⟩ (.int .u16 x)).heap[W.heap.size]? = _ := (S.setCell_other w2 _ _ _ _ (by omega)).trans q0
      have hd3 : S.HasD (w2.setCell ⟨W.heap.size + 1, 0, none⟩ (.int .u16 x)) bd (D) := hd2.kept (S.setCell_other w2 _ _ _ _ (by omega))
      have ht3 : S.At bd W (w2.setCell ⟨W.heap.size + 1, 0, none⟩ (.int .u16 x)) := ⟨ht2.os.trans ht.os, ht2.tape.trans ht.tape, ht2.output.trans ht.output, by rw [S.setCell_size]; exact Nat.le_trans ht.size ht2.size, fun k hk hn => (S.setCell_other w2 _ _ _ _ (by omega)).trans ((ht2.block k (Nat.lt_of_lt_of_le hk ht.size) hn).trans (ht.block k hk hn))⟩
      have HT := S.hid (And.intro q3 ht3)
      have HD := S.hid (And.intro hd3 q2)
      clear q0 q1 q2 q3 hd2 hd3 ht2 ht3 hp hd0 hd r0 r1 ht
      go_wp2
      go_roundw
      case rel => exact ⟨.inl ⟨rfl, HD.out.1, HD.out.2⟩, HT.out.1, HT.out.2⟩
      case measure => simp [intOf]
/-- The stages of take at 2. -/
def tk2 (bd : Nat) (D : List Int) (x y : Int) (W : World) (i : Value) (wr : World) : Prop :=
  ((i = .int .i64 (-1) ∧ S.HasD wr bd (D) ∧ wr.heap[W.heap.size + 1]? = some (.cells [.int .u16 x, .int .u16 y, .int .u16 0].toArray 126 (0, 0))) ∨
  (i = .int .i64 (0) ∧ S.HasD wr bd (D ++ [x]) ∧ wr.heap[W.heap.size + 1]? = some (.cells [.int .u16 0, .int .u16 y, .int .u16 0].toArray 126 (0, 0))) ∨
  (i = .int .i64 (1) ∧ S.HasD wr bd (D ++ [x, y]) ∧ wr.heap[W.heap.size + 1]? = some (.cells [.int .u16 0, .int .u16 0, .int .u16 0].toArray 126 (0, 0)))) ∧ wr.heap[W.heap.size]? = some (.cells [.int .u16 0, .int .u16 0, .int .u16 0].toArray 126 (0, 0)) ∧ S.At bd W wr
theorem take_2 (bd : Nat) (D : List Int) (x y : Int) (W : World) (h : S.HasD W bd (D ++ [x, y])) :
    Calls Tryz.prog 48 #[.pointer (some ⟨bd, 0, none⟩), .int .i64 2] W fun e W' => e = .returned (.agg #[.int .u16 x, .int .u16 y, .int .u16 0]) ∧ S.HasD W' bd D ∧ S.At bd W W' := by
  obtain ⟨w0, hw0⟩ : ∃ w0, (W.alloc (.cells #[.int .u16 0, .int .u16 0, .int .u16 0] 126)).alloc (.cells #[.int .u16 0, .int .u16 0, .int .u16 0] 126) = w0 := ⟨_, rfl⟩
  have hb : Below W.heap.size W w0 := by rw [← hw0]; exact ((Below.refl _ W).alloc (Nat.le_refl _) _).alloc (by simp) _
  have r0 : w0.heap[W.heap.size]? = some (.cells [.int .u16 0, .int .u16 0, .int .u16 0].toArray 126 (0, 0)) := by rw [← hw0]; exact (Below.heap_alloc _ _ _ (by simp)).trans (heap_alloc_new W _)
  have r1 : w0.heap[W.heap.size + 1]? = some (.cells [.int .u16 0, .int .u16 0, .int .u16 0].toArray 126 (0, 0)) := by rw [← hw0]; exact heap_alloc2_new W _ _
  have hlt := S.lt_of h.1
  have T0 : tk2 bd D x y W (.int .i64 (1)) w0 := ⟨.inr (.inr (⟨rfl, h.below hb, r1⟩)), r0, hb.os, hb.tape, hb.output, hb.size, fun k hk _ => hb.block k hk⟩
  clear hb r0 r1
  have T := S.hid T0
  clear T0
  go_enter Tryz.func48, Tryz.ntmps48
  go_wp2
  go_loopw [6] (fun i wr => tk2 bd D x y W i wr) (fun i _ => ((intOf i) + 1).toNat)
  case atStart => exact T.out
  case round =>
    clear T
    obtain ⟨hc, r0, ht⟩ := hrel
    rcases hc with ⟨rfl, hd, r1⟩ | ⟨rfl, hd, r1⟩ | ⟨rfl, hd, r1⟩
    · have hx := setRow_heap wr W.heap.size _ [.int .u16 x, .int .u16 y, .int .u16 0].toArray _ _ r0
      have ht2 : S.At bd W (wr.setRow W.heap.size [.int .u16 x, .int .u16 y, .int .u16 0].toArray) := ⟨ht.os, ht.tape, ht.output, by rw [setRow_size]; exact ht.size, fun k hk hn => (setRow_other wr _ k _ (by omega)).trans (ht.block k hk hn)⟩
      have hd2 : S.HasD (wr.setRow W.heap.size [.int .u16 x, .int .u16 y, .int .u16 0].toArray) bd D := hd.kept (setRow_other wr _ _ _ (by omega))
      go_wp2_with (first | (refine wpList_load_row rfl 126 _ rfl (W.heap.size + 1) rfl 126 _ (0, 0) _ r1 Tryz.underlying126 rfl (by exact size3) ?_) | (refine wpList_store_row rfl 126 _ _ rfl W.heap.size _ rfl rfl 126 _ r0 (by exact size3) (by rfl) (by simp [Value.oneCell']) ?_))
      refine bodyPost_ret (results_cell_row rfl _ _ W.heap.size 126 _ (0, 0) _ rfl hx Tryz.underlying126 rfl size3) rfl ⟨rfl, hd2, ht2⟩
    · have hd0 : S.HasD wr bd ((D) ++ [x]) := by simpa using hd
      have hp := S.dpop bd (D) x wr hd0
      go_wp2_with fail
      refine hp.mono ?_
      rintro e w2 ⟨rfl, hd2, ht2⟩
      have q0 : w2.heap[W.heap.size]? = _ := (ht2.block _ (S.lt_of r0) (by omega)).trans r0
      have q1 : w2.heap[W.heap.size + 1]? = _ := (ht2.block _ (S.lt_of r1) (by omega)).trans r1
      have c1 := S.cell_of w2 (W.heap.size + 1) 0 _ 126 _ q1 rfl
      have z1 := S.frozen_of w2 (W.heap.size + 1) 0 _ 126 q1
      have q2 : (w2.setCell ⟨W.heap.size + 1, 0, none⟩ (.int .u16 x)).heap[W.heap.size + 1]? = some (.cells [.int .u16 x, .int .u16 y, .int .u16 0].toArray 126 (0, 0)) := S.setCell_heap w2 (W.heap.size + 1) 0 _ 126 _ q1
      have q3 : (w2.setCell ⟨W.heap.size + 1, 0, none⟩ (.int .u16 x)).heap[W.heap.size]? = _ := (S.setCell_other w2 _ _ _ _ (by omega)).trans q0
      have hd3 : S.HasD (w2.setCell ⟨W.heap.size + 1, 0, none⟩ (.int .u16 x)) bd (D) := hd2.kept (S.setCell_other w2 _ _ _ _ (by omega))
      have ht3 : S.At bd W (w2.setCell ⟨W.heap.size + 1, 0, none⟩ (.int .u16 x)) := ⟨ht2.os.trans ht.os, ht2.tape.trans ht.tape, ht2.output.trans ht.output, by rw [S.setCell_size]; exact Nat.le_trans ht.size ht2.size, fun k hk hn => (S.setCell_other w2 _ _ _ _ (by omega)).trans ((ht2.block k (Nat.lt_of_lt_of_le hk ht.size) hn).trans (ht.block k hk hn))⟩
      have HT := S.hid (And.intro q3 ht3)
      have HD := S.hid (And.intro hd3 q2)
      clear q0 q1 q2 q3 hd2 hd3 ht2 ht3 hp hd0 hd r0 r1 ht
      go_wp2
      go_roundw
      case rel => exact ⟨.inl ⟨rfl, HD.out.1, HD.out.2⟩, HT.out.1, HT.out.2⟩
      case measure => simp [intOf]
    · have hd0 : S.HasD wr bd ((D ++ [x]) ++ [y]) := by simpa using hd
      have hp := S.dpop bd (D ++ [x]) y wr hd0
      go_wp2_with fail
      refine hp.mono ?_
      rintro e w2 ⟨rfl, hd2, ht2⟩
      have q0 : w2.heap[W.heap.size]? = _ := (ht2.block _ (S.lt_of r0) (by omega)).trans r0
      have q1 : w2.heap[W.heap.size + 1]? = _ := (ht2.block _ (S.lt_of r1) (by omega)).trans r1
      have c1 := S.cell_of w2 (W.heap.size + 1) 1 _ 126 _ q1 rfl
      have z1 := S.frozen_of w2 (W.heap.size + 1) 1 _ 126 q1
      have q2 : (w2.setCell ⟨W.heap.size + 1, 1, none⟩ (.int .u16 y)).heap[W.heap.size + 1]? = some (.cells [.int .u16 0, .int .u16 y, .int .u16 0].toArray 126 (0, 0)) := S.setCell_heap w2 (W.heap.size + 1) 1 _ 126 _ q1
      have q3 : (w2.setCell ⟨W.heap.size + 1, 1, none⟩ (.int .u16 y)).heap[W.heap.size]? = _ := (S.setCell_other w2 _ _ _ _ (by omega)).trans q0
      have hd3 : S.HasD (w2.setCell ⟨W.heap.size + 1, 1, none⟩ (.int .u16 y)) bd (D ++ [x]) := hd2.kept (S.setCell_other w2 _ _ _ _ (by omega))
      have ht3 : S.At bd W (w2.setCell ⟨W.heap.size + 1, 1, none⟩ (.int .u16 y)) := ⟨ht2.os.trans ht.os, ht2.tape.trans ht.tape, ht2.output.trans ht.output, by rw [S.setCell_size]; exact Nat.le_trans ht.size ht2.size, fun k hk hn => (S.setCell_other w2 _ _ _ _ (by omega)).trans ((ht2.block k (Nat.lt_of_lt_of_le hk ht.size) hn).trans (ht.block k hk hn))⟩
      have HT := S.hid (And.intro q3 ht3)
      have HD := S.hid (And.intro hd3 q2)
      clear q0 q1 q2 q3 hd2 hd3 ht2 ht3 hp hd0 hd r0 r1 ht
      go_wp2
      go_roundw
      case rel => exact ⟨.inr (.inl ⟨rfl, HD.out.1, HD.out.2⟩), HT.out.1, HT.out.2⟩
      case measure => simp [intOf]
/-- The stages of take at 3. -/
def tk3 (bd : Nat) (D : List Int) (x y z : Int) (W : World) (i : Value) (wr : World) : Prop :=
  ((i = .int .i64 (-1) ∧ S.HasD wr bd (D) ∧ wr.heap[W.heap.size + 1]? = some (.cells [.int .u16 x, .int .u16 y, .int .u16 z].toArray 126 (0, 0))) ∨
  (i = .int .i64 (0) ∧ S.HasD wr bd (D ++ [x]) ∧ wr.heap[W.heap.size + 1]? = some (.cells [.int .u16 0, .int .u16 y, .int .u16 z].toArray 126 (0, 0))) ∨
  (i = .int .i64 (1) ∧ S.HasD wr bd (D ++ [x, y]) ∧ wr.heap[W.heap.size + 1]? = some (.cells [.int .u16 0, .int .u16 0, .int .u16 z].toArray 126 (0, 0))) ∨
  (i = .int .i64 (2) ∧ S.HasD wr bd (D ++ [x, y, z]) ∧ wr.heap[W.heap.size + 1]? = some (.cells [.int .u16 0, .int .u16 0, .int .u16 0].toArray 126 (0, 0)))) ∧ wr.heap[W.heap.size]? = some (.cells [.int .u16 0, .int .u16 0, .int .u16 0].toArray 126 (0, 0)) ∧ S.At bd W wr
theorem take_3 (bd : Nat) (D : List Int) (x y z : Int) (W : World) (h : S.HasD W bd (D ++ [x, y, z])) :
    Calls Tryz.prog 48 #[.pointer (some ⟨bd, 0, none⟩), .int .i64 3] W fun e W' => e = .returned (.agg #[.int .u16 x, .int .u16 y, .int .u16 z]) ∧ S.HasD W' bd D ∧ S.At bd W W' := by
  obtain ⟨w0, hw0⟩ : ∃ w0, (W.alloc (.cells #[.int .u16 0, .int .u16 0, .int .u16 0] 126)).alloc (.cells #[.int .u16 0, .int .u16 0, .int .u16 0] 126) = w0 := ⟨_, rfl⟩
  have hb : Below W.heap.size W w0 := by rw [← hw0]; exact ((Below.refl _ W).alloc (Nat.le_refl _) _).alloc (by simp) _
  have r0 : w0.heap[W.heap.size]? = some (.cells [.int .u16 0, .int .u16 0, .int .u16 0].toArray 126 (0, 0)) := by rw [← hw0]; exact (Below.heap_alloc _ _ _ (by simp)).trans (heap_alloc_new W _)
  have r1 : w0.heap[W.heap.size + 1]? = some (.cells [.int .u16 0, .int .u16 0, .int .u16 0].toArray 126 (0, 0)) := by rw [← hw0]; exact heap_alloc2_new W _ _
  have hlt := S.lt_of h.1
  have T0 : tk3 bd D x y z W (.int .i64 (2)) w0 := ⟨.inr (.inr (.inr (⟨rfl, h.below hb, r1⟩))), r0, hb.os, hb.tape, hb.output, hb.size, fun k hk _ => hb.block k hk⟩
  clear hb r0 r1
  have T := S.hid T0
  clear T0
  go_enter Tryz.func48, Tryz.ntmps48
  go_wp2
  go_loopw [6] (fun i wr => tk3 bd D x y z W i wr) (fun i _ => ((intOf i) + 1).toNat)
  case atStart => exact T.out
  case round =>
    clear T
    obtain ⟨hc, r0, ht⟩ := hrel
    rcases hc with ⟨rfl, hd, r1⟩ | ⟨rfl, hd, r1⟩ | ⟨rfl, hd, r1⟩ | ⟨rfl, hd, r1⟩
    · have hx := setRow_heap wr W.heap.size _ [.int .u16 x, .int .u16 y, .int .u16 z].toArray _ _ r0
      have ht2 : S.At bd W (wr.setRow W.heap.size [.int .u16 x, .int .u16 y, .int .u16 z].toArray) := ⟨ht.os, ht.tape, ht.output, by rw [setRow_size]; exact ht.size, fun k hk hn => (setRow_other wr _ k _ (by omega)).trans (ht.block k hk hn)⟩
      have hd2 : S.HasD (wr.setRow W.heap.size [.int .u16 x, .int .u16 y, .int .u16 z].toArray) bd D := hd.kept (setRow_other wr _ _ _ (by omega))
      go_wp2_with (first | (refine wpList_load_row rfl 126 _ rfl (W.heap.size + 1) rfl 126 _ (0, 0) _ r1 Tryz.underlying126 rfl (by exact size3) ?_) | (refine wpList_store_row rfl 126 _ _ rfl W.heap.size _ rfl rfl 126 _ r0 (by exact size3) (by rfl) (by simp [Value.oneCell']) ?_))
      refine bodyPost_ret (results_cell_row rfl _ _ W.heap.size 126 _ (0, 0) _ rfl hx Tryz.underlying126 rfl size3) rfl ⟨rfl, hd2, ht2⟩
    · have hd0 : S.HasD wr bd ((D) ++ [x]) := by simpa using hd
      have hp := S.dpop bd (D) x wr hd0
      go_wp2_with fail
      refine hp.mono ?_
      rintro e w2 ⟨rfl, hd2, ht2⟩
      have q0 : w2.heap[W.heap.size]? = _ := (ht2.block _ (S.lt_of r0) (by omega)).trans r0
      have q1 : w2.heap[W.heap.size + 1]? = _ := (ht2.block _ (S.lt_of r1) (by omega)).trans r1
      have c1 := S.cell_of w2 (W.heap.size + 1) 0 _ 126 _ q1 rfl
      have z1 := S.frozen_of w2 (W.heap.size + 1) 0 _ 126 q1
      have q2 : (w2.setCell ⟨W.heap.size + 1, 0, none⟩ (.int .u16 x)).heap[W.heap.size + 1]? = some (.cells [.int .u16 x, .int .u16 y, .int .u16 z].toArray 126 (0, 0)) := S.setCell_heap w2 (W.heap.size + 1) 0 _ 126 _ q1
      have q3 : (w2.setCell ⟨W.heap.size + 1, 0, none⟩ (.int .u16 x)).heap[W.heap.size]? = _ := (S.setCell_other w2 _ _ _ _ (by omega)).trans q0
      have hd3 : S.HasD (w2.setCell ⟨W.heap.size + 1, 0, none⟩ (.int .u16 x)) bd (D) := hd2.kept (S.setCell_other w2 _ _ _ _ (by omega))
      have ht3 : S.At bd W (w2.setCell ⟨W.heap.size + 1, 0, none⟩ (.int .u16 x)) := ⟨ht2.os.trans ht.os, ht2.tape.trans ht.tape, ht2.output.trans ht.output, by rw [S.setCell_size]; exact Nat.le_trans ht.size ht2.size, fun k hk hn => (S.setCell_other w2 _ _ _ _ (by omega)).trans ((ht2.block k (Nat.lt_of_lt_of_le hk ht.size) hn).trans (ht.block k hk hn))⟩
      have HT := S.hid (And.intro q3 ht3)
      have HD := S.hid (And.intro hd3 q2)
      clear q0 q1 q2 q3 hd2 hd3 ht2 ht3 hp hd0 hd r0 r1 ht
      go_wp2
      go_roundw
      case rel => exact ⟨.inl ⟨rfl, HD.out.1, HD.out.2⟩, HT.out.1, HT.out.2⟩
      case measure => simp [intOf]
    · have hd0 : S.HasD wr bd ((D ++ [x]) ++ [y]) := by simpa using hd
      have hp := S.dpop bd (D ++ [x]) y wr hd0
      go_wp2_with fail
      refine hp.mono ?_
      rintro e w2 ⟨rfl, hd2, ht2⟩
      have q0 : w2.heap[W.heap.size]? = _ := (ht2.block _ (S.lt_of r0) (by omega)).trans r0
      have q1 : w2.heap[W.heap.size + 1]? = _ := (ht2.block _ (S.lt_of r1) (by omega)).trans r1
      have c1 := S.cell_of w2 (W.heap.size + 1) 1 _ 126 _ q1 rfl
      have z1 := S.frozen_of w2 (W.heap.size + 1) 1 _ 126 q1
      have q2 : (w2.setCell ⟨W.heap.size + 1, 1, none⟩ (.int .u16 y)).heap[W.heap.size + 1]? = some (.cells [.int .u16 0, .int .u16 y, .int .u16 z].toArray 126 (0, 0)) := S.setCell_heap w2 (W.heap.size + 1) 1 _ 126 _ q1
      have q3 : (w2.setCell ⟨W.heap.size + 1, 1, none⟩ (.int .u16 y)).heap[W.heap.size]? = _ := (S.setCell_other w2 _ _ _ _ (by omega)).trans q0
      have hd3 : S.HasD (w2.setCell ⟨W.heap.size + 1, 1, none⟩ (.int .u16 y)) bd (D ++ [x]) := hd2.kept (S.setCell_other w2 _ _ _ _ (by omega))
      have ht3 : S.At bd W (w2.setCell ⟨W.heap.size + 1, 1, none⟩ (.int .u16 y)) := ⟨ht2.os.trans ht.os, ht2.tape.trans ht.tape, ht2.output.trans ht.output, by rw [S.setCell_size]; exact Nat.le_trans ht.size ht2.size, fun k hk hn => (S.setCell_other w2 _ _ _ _ (by omega)).trans ((ht2.block k (Nat.lt_of_lt_of_le hk ht.size) hn).trans (ht.block k hk hn))⟩
      have HT := S.hid (And.intro q3 ht3)
      have HD := S.hid (And.intro hd3 q2)
      clear q0 q1 q2 q3 hd2 hd3 ht2 ht3 hp hd0 hd r0 r1 ht
      go_wp2
      go_roundw
      case rel => exact ⟨.inr (.inl ⟨rfl, HD.out.1, HD.out.2⟩), HT.out.1, HT.out.2⟩
      case measure => simp [intOf]
    · have hd0 : S.HasD wr bd ((D ++ [x, y]) ++ [z]) := by simpa using hd
      have hp := S.dpop bd (D ++ [x, y]) z wr hd0
      go_wp2_with fail
      refine hp.mono ?_
      rintro e w2 ⟨rfl, hd2, ht2⟩
      have q0 : w2.heap[W.heap.size]? = _ := (ht2.block _ (S.lt_of r0) (by omega)).trans r0
      have q1 : w2.heap[W.heap.size + 1]? = _ := (ht2.block _ (S.lt_of r1) (by omega)).trans r1
      have c1 := S.cell_of w2 (W.heap.size + 1) 2 _ 126 _ q1 rfl
      have z1 := S.frozen_of w2 (W.heap.size + 1) 2 _ 126 q1
      have q2 : (w2.setCell ⟨W.heap.size + 1, 2, none⟩ (.int .u16 z)).heap[W.heap.size + 1]? = some (.cells [.int .u16 0, .int .u16 0, .int .u16 z].toArray 126 (0, 0)) := S.setCell_heap w2 (W.heap.size + 1) 2 _ 126 _ q1
      have q3 : (w2.setCell ⟨W.heap.size + 1, 2, none⟩ (.int .u16 z)).heap[W.heap.size]? = _ := (S.setCell_other w2 _ _ _ _ (by omega)).trans q0
      have hd3 : S.HasD (w2.setCell ⟨W.heap.size + 1, 2, none⟩ (.int .u16 z)) bd (D ++ [x, y]) := hd2.kept (S.setCell_other w2 _ _ _ _ (by omega))
      have ht3 : S.At bd W (w2.setCell ⟨W.heap.size + 1, 2, none⟩ (.int .u16 z)) := ⟨ht2.os.trans ht.os, ht2.tape.trans ht.tape, ht2.output.trans ht.output, by rw [S.setCell_size]; exact Nat.le_trans ht.size ht2.size, fun k hk hn => (S.setCell_other w2 _ _ _ _ (by omega)).trans ((ht2.block k (Nat.lt_of_lt_of_le hk ht.size) hn).trans (ht.block k hk hn))⟩
      have HT := S.hid (And.intro q3 ht3)
      have HD := S.hid (And.intro hd3 q2)
      clear q0 q1 q2 q3 hd2 hd3 ht2 ht3 hp hd0 hd r0 r1 ht
      go_wp2
      go_roundw
      case rel => exact ⟨.inr (.inr (.inl ⟨rfl, HD.out.1, HD.out.2⟩)), HT.out.1, HT.out.2⟩
      case measure => simp [intOf]
theorem look_none (op : Int) (name : ByteArray) (i o c : Int) (b : Bool) (bl s : Int) (f : Value) (hf : f.oneCell' = true) (p : Value) (W : World) :
    Calls Tryz.prog 46 #[.agg #[.int .i64 op, .string name, .int .i64 i, .int .i64 o, .int .i64 c, .bool b, .int .i64 0, .int .i64 bl, .int .i64 s, f], p] W fun e W' => e = .returned (.tuple #[.int .u16 0, .int .i64 0]) ∧ Below W.heap.size W W' := by
  go_enter Tryz.func46, Tryz.ntmps46
  go_wp2
  go_ret2
  exact ⟨rfl, bel_alloc W _⟩
theorem look_at (op : Int) (name : ByteArray) (i o c : Int) (b : Bool) (k bl s : Int) (hk : (k == 0) = false) (f : Value) (p : Value) (u v : Int) (W : World)
    (hc : Calls Tryz.prog 79 #[p, .int .i64 bl, .int .i64 k] (W.alloc (.cells #[.int .i64 op, .string name, .int .i64 i, .int .i64 o, .int .i64 c, .bool b, .int .i64 k, .int .i64 bl, .int .i64 s, f] 117)) fun e W' => e = .returned (.tuple #[.int .u16 u, .int .i64 v]) ∧ ∃ q, W' = (W.alloc (.cells #[.int .i64 op, .string name, .int .i64 i, .int .i64 o, .int .i64 c, .bool b, .int .i64 k, .int .i64 bl, .int .i64 s, f] 117)).drewN q) :
    Calls Tryz.prog 46 #[.agg #[.int .i64 op, .string name, .int .i64 i, .int .i64 o, .int .i64 c, .bool b, .int .i64 k, .int .i64 bl, .int .i64 s, f], p] W fun e W' => e = .returned (.tuple #[.int .u16 u, .int .i64 v]) ∧ Below W.heap.size W W' := by
  go_enter Tryz.func46, Tryz.ntmps46
  go_wp2_with fail
  refine hc.mono ?_
  rintro e w1 ⟨rfl, q, rfl⟩
  go_wp2
  go_ret2
  have hb := bel_alloc W (.cells #[.int .i64 op, .string name, .int .i64 i, .int .i64 o, .int .i64 c, .bool b, .int .i64 k, .int .i64 bl, .int .i64 s, f] 117)
  exact ⟨rfl, hb.os, hb.tape, hb.output, hb.size, hb.block⟩
end Go.Proofs.YtgponcjjnjpfkabGreat.P
