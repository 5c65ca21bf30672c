import Derived.Test.YtcmaccefjlgbfaaInO
import Derived.Deep.OwnRows
import Derived.Laws.OwnMore
/-! The reference: full. -/
namespace Go.Proofs.Ytcmaccefjlgbfaa
open Go.RowKit
open Go.Proofs
set_option linter.unusedVariables false
set_option linter.unusedSimpArgs false
/-- A row of bytes that fills its block. -/
def B5 (W : World) (g : Nat) (l : List UInt8) : Prop := W.heap[g]? = some (.cells (bv l).toArray 5 (0, 0))
def padN (n : Nat) (l : List UInt8) : List UInt8 := l ++ List.replicate (n - l.length) 0
theorem padN_len (n : Nat) (l : List UInt8) (h : l.length ≤ n) : (padN n l).length = n := by rw [padN, List.length_append, List.length_replicate]; omega
theorem padN_full (n : Nat) (l : List UInt8) (h : l.length = n) : padN n l = l := by rw [padN, h, Nat.sub_self]; simp
/-- The first k are written. -/
def fl (n : Nat) (l : List UInt8) (k : Nat) : List UInt8 := l.take k ++ List.replicate (n - k) 0
theorem fl_len (n : Nat) (l : List UInt8) (k : Nat) (h : k ≤ l.length) (hn : l.length ≤ n) : (fl n l k).length = n := by rw [fl, List.length_append, List.length_replicate, List.length_take]; omega
theorem fl_step (n : Nat) (l : List UInt8) (k : Nat) (h : k < l.length) (hn : l.length ≤ n) : (fl n l k).set k l[k] = fl n l (k + 1) := by
  unfold fl
  rw [List.take_succ_eq_append_getElem h, List.append_assoc, List.set_append_right _ _ (by rw [List.length_take]; omega), List.length_take, show k - min k l.length = 0 by omega]
  congr 1
  rw [show n - k = (n - (k + 1)) + 1 by omega, List.replicate_succ, List.set_cons_zero]
  rfl
theorem made_eq (n : Nat) (l : List UInt8) : madeCells #[Value.int .u8 0] n = (bv (fl n l 0)).toArray := by
  apply Array.ext'
  rw [toList_madeCells_one]
  simp [fl, bv]
set_option maxHeartbeats 2000000
set_option maxRecDepth 100000
theorem full_any (v : Value) (l : List UInt8) (n : Nat) (hn : n ≤ 16384) (hl : l.length ≤ n) (w : World) (h : Sl w v l) :
    Calls Try.prog 48 #[v, .int .i64 (n : Int)] w fun e w' => e = .returned (.slice (some ⟨w.heap.size, 0, none⟩) n n) ∧ B5 w' w.heap.size (padN n l) ∧ Below w.heap.size w w' ∧ w'.heap.size = w.heap.size + 1 := by
  have hmk := run_make_row' (P := Try.prog) 35 5 (.int .u8 0) 1 Try.underlying35 info5 rfl .i64 .i64 n (by omega) (by omega)
  have hmc : madeCells #[Value.int .u8 0] n = (bv (fl n l 0)).toArray := made_eq n l
  have hB0 : Below w.heap.size w (w.alloc (.cells (bv (fl n l 0)).toArray 5)) := (Below.refl _ w).alloc (Nat.le_refl _) _
  have h50 : B5 (w.alloc (.cells (bv (fl n l 0)).toArray 5)) w.heap.size (fl n l 0) := heap_alloc_new w _
  have hz0 : (w.alloc (.cells (bv (fl n l 0)).toArray 5)).heap.size = w.heap.size + 1 := by simp
  have H0 : Hid _ := hB0
  have H5 : Hid _ := h50
  have HZ : Hid _ := hz0
  have HS : Hid _ := h
  obtain ⟨p, c, rfl, hbs⟩ := h.ex
  rw [hmc] at hmk
  clear hB0 h50 hz0 hmc h
  go_enter Try.func48, Try.ntmps48
  go_wp2
  go_loopw [11] (fun i wr => ∃ k : Nat, k ≤ l.length ∧ i = .int .i64 (k : Int) ∧ B5 wr w.heap.size (fl n l k) ∧ Below w.heap.size w wr ∧ wr.heap.size = w.heap.size + 1) (fun i _ => l.length - (intOf i).toNat)
  case atStart => exact ⟨0, by omega, rfl, H5.out, H0.out, HZ.out⟩
  case round =>
    clear H5 H0 HZ
    obtain ⟨k, hk, rfl, h5, hB, hz⟩ := hrel
    by_cases hlt : k < l.length
    · have i1 : (k : Int) < l.length := by omega
      have i2 : (k : Int) < n := by omega
      have hs2 := Sl.below HS.out hB
      obtain ⟨x, rfl, hcx⟩ : ∃ x, p = some x ∧ wr.cell? (x.add k) = some (.int .u8 ((l[k]).toNat : Int)) := by
        rcases hs2 with ⟨e, e2⟩ | ⟨x, c', e, _, hc⟩
        · rw [e2] at hlt; simp at hlt
        · simp only [Value.slice.injEq] at e; exact ⟨x, e.1, hc k _ (List.getElem?_eq_getElem hlt)⟩
      have hfl := fl_len n l k hk hl
      have ho := cell_of wr w.heap.size k _ 5 _ h5 ((bv_get _ _ _).2 ⟨_, lb_of (fl n l k) k (by omega), rfl⟩)
      have hf := frozen_of wr w.heap.size k _ 5 h5
      have hnew : B5 (wr.setCell ⟨w.heap.size, k, none⟩ (.int .u8 ((l[k]).toNat : Int))) w.heap.size (fl n l (k + 1)) := by
        unfold B5; rw [← fl_step n l k hlt hl, ← bv_set]; exact setCell_heap wr _ _ _ 5 _ h5
      have hB2 : Below w.heap.size w (wr.setCell ⟨w.heap.size, k, none⟩ (.int .u8 ((l[k]).toNat : Int))) := hB.setCell (p := ⟨w.heap.size, k, none⟩) (Nat.le_refl _) _
      have hz2 : (wr.setCell ⟨w.heap.size, k, none⟩ (.int .u8 ((l[k]).toNat : Int))).heap.size = w.heap.size + 1 := by rw [setCell_size]; exact hz
      generalize (fl n l k).getD k 0 = old at *
      generalize (l[k]).toNat = y at *
      have HN : Hid _ := hnew
      have HB : Hid _ := hB2
      have HZ : Hid _ := hz2
      clear hnew hB2 hz2 hs2 hbs hfl h5 hB hz
      go_wp2
      go_roundw
      case rel =>
        first
          | exact ⟨k + 1, by omega, by go_num, HN.out, HB.out, HZ.out⟩
          | ((repeat apply Exists.intro); refine ⟨⟨k + 1, by omega, ?_, HN.out, HB.out, HZ.out⟩, rfl⟩; go_num)
      case measure => simp [intOf]; omega
    · obtain rfl : k = l.length := by omega
      have e : fl n l l.length = padN n l := by simp [fl, padN]
      rw [e] at h5
      go_wp2
      go_ret
      exact ⟨rfl, h5, hB, hz⟩
end Go.Proofs.Ytcmaccefjlgbfaa
