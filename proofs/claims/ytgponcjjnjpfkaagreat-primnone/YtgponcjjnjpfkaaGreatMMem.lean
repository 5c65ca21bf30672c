import Derived.Test.YtgponcjjnjpfkaaGreatMKit
/-! What a memory of the program is, in the world. -/
namespace Go.Proofs.YtgponcjjnjpfkaaGreat.M
open Go.RowKit
open Go.Proofs
set_option linter.unusedVariables false
set_option linter.unusedSimpArgs false

/-- All that a memory holds. -/
structure MS where
  ram : List UInt8
  scr : List UInt8
  ch : Int
  pad : Int
  pitch : Int
  vol : Int
  time : Int
  cyc : Int
  tones : List (Int × Int × Int)
  banks : Nat → Option (List UInt8)

structure Wf (m : MS) : Prop where
  ram : m.ram.length = 16384
  scr : m.scr.length = 3072
  ch0 : 0 ≤ m.ch
  ch1 : m.ch < 16
  pad0 : 0 ≤ m.pad
  pad1 : m.pad < 256
  pitch0 : 0 ≤ m.pitch
  pitch1 : m.pitch < 65536
  vol0 : 0 ≤ m.vol
  vol1 : m.vol < 256
  time0 : 0 ≤ m.time
  time1 : m.time < 65536
  bk : ∀ n l, m.banks n = some l → n < 16 ∧ l.length = 16384

def tcell (t : Int × Int × Int) : List Value := [.int .i64 t.1, .int .u16 t.2.1, .int .u8 t.2.2]
def tc (l : List (Int × Int × Int)) : List Value := l.flatMap tcell
theorem tc_append (a b : List (Int × Int × Int)) : tc (a ++ b) = tc a ++ tc b := by simp [tc]
theorem tc_len (l : List (Int × Int × Int)) : (tc l).length = l.length * 3 := by
  induction l with
  | nil => rfl
  | cons a l ih => rw [show a :: l = [a] ++ l from rfl, tc_append, List.length_append, ih]; simp [tc, tcell]; omega
theorem tc_one (l : List (Int × Int × Int)) : ∀ u ∈ tc l, u.oneCell' = true := by
  intro u hu; simp [tc, tcell] at hu; obtain ⟨a, b, c, _, h⟩ := hu; rcases h with rfl | rfl | rfl <;> rfl

/-- The registers' cells. -/
def regs (m : MS) (tv : Value) : List Value := [.int .u8 m.ch, .int .u8 m.pad, .int .u16 m.pitch, .int .u8 m.vol, .int .u16 m.time, .int .i64 m.cyc, tv]
def mcells (mb : Nat) (m : MS) (tv : Value) : List Value := Value.map (some mb) :: (bv m.ram ++ (bv m.scr ++ regs m tv))
theorem mcells_len (mb : Nat) (m : MS) (tv : Value) (h : Wf m) : (mcells mb m tv).length = 19464 := by simp [mcells, regs, bv_len, h.ram, h.scr]
theorem mcells_0 (mb : Nat) (m : MS) (tv : Value) : (mcells mb m tv)[0]? = some (.map (some mb)) := rfl
theorem mcells_ram (mb : Nat) (m : MS) (tv : Value) (h : Wf m) (i : Nat) (x : UInt8) (hx : m.ram[i]? = some x) : (mcells mb m tv)[1 + i]? = some (.int .u8 (x.toNat : Int)) := by
  have hi : i < m.ram.length := (List.getElem?_eq_some_iff.1 hx).1
  rw [mcells, Nat.add_comm, List.getElem?_cons_succ, List.getElem?_append_left (by rw [bv_len]; exact hi)]
  exact (bv_get _ _ _).2 ⟨x, hx, rfl⟩
theorem mcells_scr (mb : Nat) (m : MS) (tv : Value) (h : Wf m) (i : Nat) (x : UInt8) (hx : m.scr[i]? = some x) : (mcells mb m tv)[16385 + i]? = some (.int .u8 (x.toNat : Int)) := by
  have hi : i < m.scr.length := (List.getElem?_eq_some_iff.1 hx).1
  rw [mcells, show 16385 + i = (16384 + i) + 1 by omega, List.getElem?_cons_succ, List.getElem?_append_right (by rw [bv_len, h.ram]; omega), bv_len, h.ram, Nat.add_sub_cancel_left, List.getElem?_append_left (by rw [bv_len]; exact hi)]
  exact (bv_get _ _ _).2 ⟨x, hx, rfl⟩
theorem mcells_reg (mb : Nat) (m : MS) (tv : Value) (h : Wf m) (i : Nat) : (mcells mb m tv)[19457 + i]? = (regs m tv)[i]? := by
  rw [mcells, show 19457 + i = (19456 + i) + 1 by omega, List.getElem?_cons_succ, List.getElem?_append_right (by rw [bv_len, h.ram]; omega), bv_len, h.ram,
    List.getElem?_append_right (by rw [bv_len, h.scr]; omega), bv_len, h.scr, show 19456 + i - 16384 - 3072 = i by omega]
theorem mcells_set_0 (mb mb' : Nat) (m : MS) (tv : Value) : (mcells mb m tv).set 0 (.map (some mb')) = mcells mb' m tv := rfl
theorem bv_set (l : List UInt8) (i : Nat) (x : UInt8) : (bv l).set i (.int .u8 (x.toNat : Int)) = bv (l.set i x) := by simp [bv, List.map_set]
theorem mcells_set_ram (mb : Nat) (m : MS) (tv : Value) (h : Wf m) (i : Nat) (hi : i < 16384) (x : UInt8) : (mcells mb m tv).set (1 + i) (.int .u8 (x.toNat : Int)) = mcells mb { m with ram := m.ram.set i x } tv := by
  rw [mcells, Nat.add_comm, List.set_cons_succ, List.set_append_left _ _ (by rw [bv_len, h.ram]; exact hi), bv_set]; rfl
theorem mcells_set_scr (mb : Nat) (m : MS) (tv : Value) (h : Wf m) (i : Nat) (hi : i < 3072) (x : UInt8) : (mcells mb m tv).set (16385 + i) (.int .u8 (x.toNat : Int)) = mcells mb { m with scr := m.scr.set i x } tv := by
  rw [mcells, show 16385 + i = (16384 + i) + 1 by omega, List.set_cons_succ, List.set_append_right _ _ (by rw [bv_len, h.ram]; omega), bv_len, h.ram, Nat.add_sub_cancel_left,
    List.set_append_left _ _ (by rw [bv_len, h.scr]; exact hi), bv_set]; rfl
theorem mcells_set_reg (mb : Nat) (m : MS) (tv : Value) (h : Wf m) (i : Nat) (v : Value) : (mcells mb m tv).set (19457 + i) v = Value.map (some mb) :: (bv m.ram ++ (bv m.scr ++ (regs m tv).set i v)) := by
  rw [mcells, show 19457 + i = (19456 + i) + 1 by omega, List.set_cons_succ, List.set_append_right _ _ (by rw [bv_len, h.ram]; omega), bv_len, h.ram,
    List.set_append_right _ _ (by rw [bv_len, h.scr]; omega), bv_len, h.scr, show 19456 + i - 16384 - 3072 = i by omega]

/-! ### Worlds -/
theorem setCell_heap (W : World) (b i : Nat) (c : List Value) (t : TypeId) (v : Value) (h : W.heap[b]? = some (.cells c.toArray t (0, 0))) : (W.setCell ⟨b, i, none⟩ v).heap[b]? = some (.cells (c.set i v).toArray t (0, 0)) := by
  simp [World.setCell, Array.getElem?_modify, h]
theorem setCell_other (W : World) (b i k : Nat) (v : Value) (h : k ≠ b) : (W.setCell ⟨b, i, none⟩ v).heap[k]? = W.heap[k]? := Below.heap_setCell W _ v k h
theorem setCell_size (W : World) (a : Addr) (v : Value) : (W.setCell a v).heap.size = W.heap.size := by simp [World.setCell]
theorem cell_of (W : World) (b i : Nat) (c : List Value) (t : TypeId) (v : Value) (h : W.heap[b]? = some (.cells c.toArray t (0, 0))) (hi : c[i]? = some v) : W.cell? ⟨b, i, none⟩ = some v := by
  simp [World.cell?, h, hi]
theorem frozen_of (W : World) (b i : Nat) (c : List Value) (t : TypeId) (h : W.heap[b]? = some (.cells c.toArray t (0, 0))) : W.frozen? ⟨b, i, none⟩ = false := by
  simp [World.frozen?, h]

/-- Only blocks of F and new ones are touched. -/
structure Tc (F : Nat → Prop) (W W' : World) : Prop where
  os : W'.os = W.os
  tape : W'.tape = W.tape
  output : W'.output = W.output
  size : W.heap.size ≤ W'.heap.size
  block : ∀ k, k < W.heap.size → ¬ F k → W'.heap[k]? = W.heap[k]?
theorem Tc.refl (F : Nat → Prop) (W : World) : Tc F W W := ⟨rfl, rfl, rfl, Nat.le_refl _, fun _ _ _ => rfl⟩
theorem Tc.trans {F G H : Nat → Prop} {a b c : World} (h : Tc F a b) (k : Tc G b c) (hF : ∀ i, F i → H i) (hG : ∀ i, i < a.heap.size → G i → H i) : Tc H a c :=
  ⟨k.os.trans h.os, k.tape.trans h.tape, k.output.trans h.output, Nat.le_trans h.size k.size, fun i hi hn => (k.block i (Nat.lt_of_lt_of_le hi h.size) fun g => hn (hG i hi g)).trans (h.block i hi fun f => hn (hF i f))⟩
theorem Tc.of_below {F : Nat → Prop} {B : Nat} {a b : World} (h : Below B a b) (hF : ∀ i, B ≤ i → i < a.heap.size → F i) : Tc F a b :=
  ⟨h.os, h.tape, h.output, h.size, fun i hi hn => h.block i (by apply Decidable.byContradiction; intro c; exact hn (hF i (by omega) hi))⟩
theorem Tc.below {F : Nat → Prop} {B : Nat} {a b : World} (h : Tc F a b) (hB : B ≤ a.heap.size) (hF : ∀ i, F i → B ≤ i) : Below B a b :=
  ⟨h.os, h.tape, h.output, h.size, fun i hi => h.block i (by omega) fun f => by have := hF i f; omega⟩
theorem Tc.setCell {F : Nat → Prop} {a b : World} (h : Tc F a b) (g i : Nat) (hg : F g) (v : Value) : Tc F a (b.setCell ⟨g, i, none⟩ v) :=
  ⟨h.os, h.tape, h.output, by rw [setCell_size]; exact h.size, fun k hk hn => (setCell_other _ _ _ _ _ (by rintro rfl; exact hn hg)).trans (h.block k hk hn)⟩
/-- The blocks that a call has made. -/
def gr (F : Nat → Prop) (W W' : World) (k : Nat) : Prop := F k ∨ (W.heap.size ≤ k ∧ k < W'.heap.size)

/-! ### The map of the banks -/
def ents : Nat → List (Nat × Nat) → List MapEntry
  | _, [] => []
  | i, (n, g) :: r => { key := .int .i64 (n : Int), val := .pointer (some ⟨g, 0, none⟩), born := i } :: ents (i + 1) r

/-- A bank's block. -/
def Bk (W : World) (g : Nat) (l : List UInt8) : Prop := W.heap[g]? = some (.cells (bv l).toArray 116 (0, 0))

/-- A memory of the program at the block b, in the blocks F. -/
structure MemP (W : World) (F : Nat → Prop) (b : Nat) (m : MS) (mb : Nat) (L : List (Nat × Nat)) (tv : Value) : Prop where
  wf : Wf m
  blk : W.heap[b]? = some (.cells (mcells mb m tv).toArray 119 (0, 0))
  map : W.heap[mb]? = some (.map (ents 0 L).toArray L.length)
  keys : (L.map Prod.fst).Nodup
  lt16 : ∀ p ∈ L, p.1 < 16
  blks : (L.map Prod.snd).Nodup
  bks : ∀ p ∈ L, ∃ l, m.banks p.1 = some l ∧ Bk W p.2 l
  all : ∀ n l, m.banks n = some l → ∃ g, (n, g) ∈ L
  tones : W.ownsRow 0 53 3 tv m.tones.length (tc m.tones)
  fb : F b
  fmb : F mb
  fbk : ∀ p ∈ L, F p.2
  ft : ∀ g, tv.ownBlock = some g → F g
def HasM (W : World) (F : Nat → Prop) (b : Nat) (m : MS) : Prop := ∃ mb L tv, MemP W F b m mb L tv

theorem lt_of {W : World} {i : Nat} {o : Obj} (e : W.heap[i]? = some o) : i < W.heap.size := (Array.getElem?_eq_some_iff.1 e).1
theorem MemP.mono {W : World} {F G : Nat → Prop} {b : Nat} {m : MS} {mb : Nat} {L : List (Nat × Nat)} {tv : Value} (h : MemP W F b m mb L tv) (k : ∀ i, i < W.heap.size → F i → G i) : MemP W G b m mb L tv :=
  { h with
    fb := k _ (lt_of h.blk) h.fb
    fmb := k _ (lt_of h.map) h.fmb
    fbk := fun p hp => by obtain ⟨l, _, e⟩ := h.bks p hp; exact k _ (lt_of e) (h.fbk p hp)
    ft := fun g e => k _ (h.tones.lt g e).2 (h.ft g e) }
theorem own_kept {W W' : World} {B : Nat} {e : TypeId} {size : Nat} {v : Value} {n : Nat} {xs : List Value} (h : W.ownsRow B e size v n xs) (k : ∀ g, v.ownBlock = some g → g < W.heap.size → W'.heap[g]? = W.heap[g]?) : W'.ownsRow B e size v n xs := by
  refine ⟨h.1, ?_⟩
  rcases h.2 with h | ⟨g, cap, cur, rfl, h2, h3, h4⟩
  · exact .inl h
  · exact .inr ⟨g, cap, cur, rfl, h2, (k g rfl (Array.getElem?_eq_some_iff.1 h3).1).trans h3, h4⟩
/-- A memory stays where its blocks are as they were. -/
theorem MemP.kept {W W' : World} {F : Nat → Prop} {b : Nat} {m : MS} {mb : Nat} {L : List (Nat × Nat)} {tv : Value} (h : MemP W F b m mb L tv) (k : ∀ i, i < W.heap.size → F i → W'.heap[i]? = W.heap[i]?) : MemP W' F b m mb L tv :=
  { h with
    blk := (k _ (lt_of h.blk) h.fb).trans h.blk
    map := (k _ (lt_of h.map) h.fmb).trans h.map
    bks := fun p hp => by obtain ⟨l, e1, e2⟩ := h.bks p hp; exact ⟨l, e1, (k _ (lt_of e2) (h.fbk p hp)).trans e2⟩
    tones := own_kept h.tones fun g e hg => k g hg (h.ft g e) }
theorem HasM.mono {W : World} {F G : Nat → Prop} {b : Nat} {m : MS} (h : HasM W F b m) (k : ∀ i, i < W.heap.size → F i → G i) : HasM W G b m := by
  obtain ⟨mb, L, tv, h⟩ := h; exact ⟨mb, L, tv, h.mono k⟩
theorem HasM.kept {W W' : World} {F : Nat → Prop} {b : Nat} {m : MS} (h : HasM W F b m) (k : ∀ i, i < W.heap.size → F i → W'.heap[i]? = W.heap[i]?) : HasM W' F b m := by
  obtain ⟨mb, L, tv, h⟩ := h; exact ⟨mb, L, tv, h.kept k⟩
theorem HasM.apart {W W' : World} {F G : Nat → Prop} {b : Nat} {m : MS} (h : HasM W F b m) (t : Tc G W W') (k : ∀ i, F i → ¬ G i) : HasM W' F b m := h.kept fun i hi f => t.block i hi (k i f)

/-! ### Looking a bank up -/
theorem find_none (n : Nat) : ∀ (L : List (Nat × Nat)) (i j : Nat), (∀ p ∈ L, p.1 ≠ n) → Instr.findNow (.int .i64) (.int .i64 (n : Int)) (ents i L) j = some none
  | [], _, _, _ => rfl
  | (x, y) :: L, i, j, h => by
    have hx : x ≠ n := h (x, y) (by simp)
    have e : Instr.sameNow (.int .i64) (.int .i64 (n : Int)) (.int .i64 (x : Int)) = some false := by simp [Instr.sameNow]; omega
    simp only [ents, Instr.findNow, e]
    exact find_none n L _ _ fun p hp => h p (List.mem_cons_of_mem _ hp)
theorem find_some (n g : Nat) : ∀ (L : List (Nat × Nat)) (i j : Nat), (L.map Prod.fst).Nodup → (n, g) ∈ L → ∃ k, Instr.findNow (.int .i64) (.int .i64 (n : Int)) (ents i L) j = some (some (k, .pointer (some ⟨g, 0, none⟩)))
  | (x, y) :: L, i, j, hd, h => by
    by_cases hx : x = n
    · subst hx
      have e : Instr.sameNow (.int .i64) (.int .i64 (x : Int)) (.int .i64 (x : Int)) = some true := by simp [Instr.sameNow]
      simp only [ents, Instr.findNow, e]
      rcases List.mem_cons.1 h with h | h
      · cases h; exact ⟨j, rfl⟩
      · simp at hd; exact absurd h (hd.1 _)
    · have e : Instr.sameNow (.int .i64) (.int .i64 (n : Int)) (.int .i64 (x : Int)) = some false := by simp [Instr.sameNow]; omega
      simp only [ents, Instr.findNow, e]
      rcases List.mem_cons.1 h with h | h
      · cases h; exact absurd rfl hx
      · exact find_some n g L _ _ (by simp at hd ⊢; exact hd.2) h
theorem checkKey_int (W : World) (e : Bool) (z : Int) : (Instr.checkKey e 10000 3 (.int .i64 z)).run Tryz.prog W = .ok () W := by
  have h : ∀ d : Nat, (Instr.checkKey e (d + 1) 3 (.int .i64 z)).run Tryz.prog W = .ok () W := fun d => by simp [Instr.checkKey, run_underlying Tryz.underlying3]
  exact h 9999
theorem look_none (W : World) (mb n : Nat) (L : List (Nat × Nat)) (h : W.heap[mb]? = some (.map (ents 0 L).toArray L.length)) (hn : ∀ p ∈ L, p.1 ≠ n) :
    (Instr.lookup 115 (.map (some mb)) (.int .i64 (n : Int)) false).run Tryz.prog W = .ok (.pointer none) W := by
  simp [Instr.lookup, run_underlying Tryz.underlying115, getObj, Sem.run, h, checkKey_int, Instr.findKey, run_underlying Tryz.underlying3, find_none n L 0 0 hn, Tryz.zeroValue136]
theorem look_some (W : World) (mb n g : Nat) (L : List (Nat × Nat)) (h : W.heap[mb]? = some (.map (ents 0 L).toArray L.length)) (hd : (L.map Prod.fst).Nodup) (hn : (n, g) ∈ L) :
    (Instr.lookup 115 (.map (some mb)) (.int .i64 (n : Int)) false).run Tryz.prog W = .ok (.pointer (some ⟨g, 0, none⟩)) W := by
  obtain ⟨k, hk⟩ := find_some n g L 0 0 hd hn
  simp [Instr.lookup, run_underlying Tryz.underlying115, getObj, Sem.run, h, checkKey_int, Instr.findKey, run_underlying Tryz.underlying3, hk]
end Go.Proofs.YtgponcjjnjpfkaaGreat.M
