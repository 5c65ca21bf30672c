import Derived.Test.YtcmaccefjlgbfaaWhole
import Derived.Deep.RegionHeld
/-! Restore. -/
namespace Go.Proofs.Ytcmaccefjlgbfaa
open Go.RowKit
open Go.Proofs
set_option linter.unusedVariables false
set_option linter.unusedSimpArgs false
/-- A memory whose own block is another, and nothing else. -/
theorem MemP.reblk {W W' : World} {F : Nat → Prop} {b : Nat} {m : MS} {mb : Nat} {L : List (Nat × Nat)} {tv : Value} (h : MemP W F b m mb L tv) (m' : MS) (wf : Wf m') (hb : W'.heap[b]? = some (.cells (mcells mb m' tv).toArray 86 (0, 0)))
    (k : ∀ i, i ≠ b → W'.heap[i]? = W.heap[i]?) (e3 : m'.banks = m.banks) (e4 : m'.tones = m.tones) : MemP W' F b m' mb L tv :=
  { wf := wf
    blk := hb
    map := (k _ h.ne_map).trans h.map
    keys := h.keys
    lt16 := h.lt16
    blks := h.blks
    bks := fun p hp => by obtain ⟨l, e1, e2⟩ := h.bks p hp; exact ⟨l, by rw [e3]; exact e1, (k _ (h.ne_bk p hp)).trans e2⟩
    all := fun n l hn => h.all n l (by rw [← e3]; exact hn)
    tones := by rw [e4]; exact own_kept h.tones fun g e _ => k _ (h.ne_t g e)
    fb := h.fb
    fmb := h.fmb
    fbk := h.fbk
    ft := h.ft }
theorem info5s : (Try.prog.info? 5).map (·.size) = some 1 := by kernel_rfl
theorem copy_part (W : World) (b o n : Nat) (v : Value) (l : List UInt8) (c : List Value) (hb : W.heap[b]? = some (.cells c.toArray 86 (0, 0))) (hs : Sl W v l) (hl : l.length = n) (hn : 0 < n) (hc : o + n ≤ c.length) :
    ∃ W', (Builtin.copy_ #[35, 35] 3 #[.slice (some ⟨b, o, none⟩) n n, v]).run Try.prog W = .ok (.int .i64 (n : Int)) W' ∧ W'.heap[b]? = some (.cells (c.take o ++ bv l ++ c.drop (o + n)).toArray 86 (0, 0)) ∧ (∀ k, k ≠ b → W'.heap[k]? = W.heap[k]?) ∧ W'.heap.size = W.heap.size ∧ W'.os = W.os ∧ W'.tape = W.tape ∧ W'.output = W.output := by
  rcases hs with ⟨rfl, rfl⟩ | ⟨x, cc, rfl, hcc, hcell⟩
  · simp at hl; omega
  · have hr := run_copy_row (P := Try.prog) W 35 35 3 5 b o n n x l.length cc c.toArray 86 (bv l) Try.underlying35 info5s hb (by rw [bv_len, hl]; exact (Nat.min_self n).symm)
      (fun j u hj => by obtain ⟨y, hy, rfl⟩ := (bv_get l j u).1 hj; exact hcell j y hy) (by rw [bv_len, hl, List.size_toArray]; exact hc) (bv_one l)
    rw [bv_len, hl] at hr
    rw [hl]
    exact ⟨_, hr, setRow_eq W b c 86 _ hb, fun k hk => setRow_other W b k _ hk, size_setRow _ _ _, rfl, rfl, rfl⟩
theorem mcells_ram_new (mb : Nat) (m : MS) (tv : Value) (h : Wf m) (l : List UInt8) : (mcells mb m tv).take 1 ++ bv l ++ (mcells mb m tv).drop (1 + 16384) = mcells mb { m with ram := l } tv := by
  have e : (mcells mb m tv).drop (1 + 16384) = bv m.scr ++ regs m tv := by
    rw [mcells, Nat.add_comm, List.drop_succ_cons, List.drop_append_of_le_length (by rw [bv_len, h.ram]; omega), List.drop_of_length_le (by rw [bv_len, h.ram]; omega), List.nil_append]
  rw [e]; rfl
theorem mcells_scr_new (mb : Nat) (m : MS) (tv : Value) (h : Wf m) (l : List UInt8) : (mcells mb m tv).take 16385 ++ bv l ++ (mcells mb m tv).drop (16385 + 3072) = mcells mb { m with scr := l } tv := by
  have e1 : (mcells mb m tv).take 16385 = Value.map (some mb) :: bv m.ram := by
    rw [mcells, List.take_succ_cons, List.take_append_of_le_length (by rw [bv_len, h.ram]; omega), List.take_of_length_le (by rw [bv_len, h.ram]; omega)]
  have e2 : (mcells mb m tv).drop (16385 + 3072) = regs m tv := by
    rw [mcells, show 16385 + 3072 = (16384 + 3072) + 1 by omega, List.drop_succ_cons, List.drop_append, bv_len, h.ram, List.drop_of_length_le (by rw [bv_len, h.ram]; omega), List.nil_append, show 16384 + 3072 - 16384 = 3072 by omega,
      List.drop_append, bv_len, h.scr, List.drop_of_length_le (by rw [bv_len, h.scr]; omega), List.nil_append]
    rfl
  rw [e1, e2]; simp [mcells, regs]
/-- The memory that Restore makes. -/
def mR (bs : List (Int × List UInt8)) (ram scr : List UInt8) (m : MS) : MS := { ram := ram, scr := scr, ch := m.ch, pad := m.pad, pitch := m.pitch, vol := m.vol, time := m.time, cyc := 0, tones := [], banks := nbk bs }
end Go.Proofs.Ytcmaccefjlgbfaa
