import Derived.Test.YtgponcjjnjpfkaaGreatSKit
import Derived.BigQuiet
/-! The data stack: its calls. -/
namespace Go.Proofs.YtgponcjjnjpfkaaGreat.S
open Go.RowKit
open Go.Proofs
set_option linter.unusedVariables false
set_option linter.unusedSimpArgs false
def HasD (W : World) (b : Nat) (l : List Int) : Prop := W.heap[b]? = some (.cells (pc eU 0 l).toArray 112 (0, 0)) ∧ l.length ≤ 256
theorem HasD.count {W : World} {b : Nat} {l : List Int} (h : HasD W b l) : W.cell? ⟨b, 256, none⟩ = some (.int .i64 (l.length : Int)) := cell_of W b 256 _ 112 _ h.1 (pc_count hU 0 l h.2)
theorem HasD.get {W : World} {b : Nat} {l : List Int} (h : HasD W b l) (i : Nat) (a : Int) (hi : l[i]? = some a) : W.cell? ⟨b, i, none⟩ = some (.int .u16 a) := by
  have := pc_get hU 0 l h.2 i 0 a hi (by omega)
  exact cell_of W b i _ 112 _ h.1 (by rw [Nat.mul_one] at this; exact this)
theorem HasD.kept {W W' : World} {b : Nat} {l : List Int} (h : HasD W b l) (k : W'.heap[b]? = W.heap[b]?) : HasD W' b l := ⟨k.trans h.1, h.2⟩
theorem HasD.below {W W' : World} {b : Nat} {l : List Int} (h : HasD W b l) (k : Below W.heap.size W W') : HasD W' b l := h.kept (k.block b (lt_of h.1))
theorem HasD.len_lt {W : World} {b : Nat} {l : List Int} (h : HasD W b l) : (l.length : Int) ≤ 256 := by have := h.2; omega
theorem i64_id (z : Int) (h0 : -9223372036854775808 ≤ z) (h1 : z < 9223372036854775808) : IntKind.i64.wrap z = z := by
  simp [IntKind.wrap, IntKind.bits, IntKind.signed]; omega
set_option maxHeartbeats 1000000
set_option maxRecDepth 100000
theorem dlen (b : Nat) (l : List Int) (w : World) (h : HasD w b l) : Calls Tryz.prog 14 #[.pointer (some ⟨b, 0, none⟩)] w fun e w' => e = .returned (.int .i64 (l.length : Int)) ∧ w' = w := by
  have c := h.count
  go_enter Tryz.func14, Tryz.ntmps14
  go_wp2
  go_ret
  exact ⟨rfl, rfl⟩
theorem dlen_nil (w : World) : Calls Tryz.prog 14 #[.pointer none] w fun e w' => e = .returned (.int .i64 0) ∧ w' = w := by
  go_enter Tryz.func14, Tryz.ntmps14
  go_wp2
  go_ret
  exact ⟨rfl, rfl⟩
theorem dtop (b : Nat) (l : List Int) (a : Int) (w : World) (h : HasD w b (l ++ [a])) : Calls Tryz.prog 75 #[.pointer (some ⟨b, 0, none⟩), .int .i64 0] w fun e w' => e = .returned (.pointer (some ⟨b, l.length, none⟩)) ∧ ∃ q, w' = w.drewN q := by
  have c := h.count
  have hl := h.2
  simp only [List.length_append, List.length_cons, List.length_nil] at c hl
  have e1 : IntKind.i64.wrap (((l.length + 1 : Nat) : Int) - 1) = (l.length : Int) := by rw [i64_id _ (by omega) (by omega)]; omega
  have e2 : IntKind.i64.wrap ((l.length : Int) - 0) = (l.length : Int) := by rw [i64_id _ (by omega) (by omega)]; omega
  have hk : (l.length : Int) < 256 := by omega
  generalize hK : ((l.length + 1 : Nat) : Int) = K at *
  go_enter Tryz.func75, Tryz.ntmps75
  go_wp2_with fail
  go_quiet (fail)
  go_wp2
  go_ret
  exact ⟨rfl, _, rfl⟩
/-- What a call at the block b leaves: only that block is touched. -/
def At (b : Nat) (W W' : World) : Prop := Tc (fun k => k = b) W W'
theorem HasD.set2 {W : World} {b : Nat} {l : List Int} {a : Int} (h : HasD W b (l ++ [a])) : HasD ((W.setCell ⟨b, l.length, none⟩ (.int .u16 0)).setCell ⟨b, 256, none⟩ (.int .i64 (l.length : Int))) b l := by
  have hl := h.2
  simp only [List.length_append, List.length_cons, List.length_nil] at hl
  refine ⟨?_, by omega⟩
  rw [setCell_heap _ b 256 _ 112 _ (setCell_heap W b l.length _ 112 _ h.1), pcU_pop l a (by omega)]
theorem dtake (b : Nat) (l : List Int) (a : Int) (w : World) (h : HasD w b (l ++ [a])) : Calls Tryz.prog 50 #[.pointer (some ⟨b, 0, none⟩)] w fun e w' => e = .returned (.int .u16 a) ∧ HasD w' b l ∧ At b w w' := by
  have hl := h.2
  simp only [List.length_append, List.length_cons, List.length_nil] at hl
  go_enter Tryz.func50, Tryz.ntmps50
  go_wp2_with fail
  refine (dtop b l a w h).mono ?_
  rintro e w1 ⟨rfl, q, hq⟩
  have h1 : HasD w1 b (l ++ [a]) := by rw [hq]; exact h
  have t1 : At b w w1 := by rw [hq]; exact (Tc.refl _ _).drewN q
  clear hq
  have g1 := h1.get l.length a (by simp)
  go_wp2_with fail
  refine (dtop b l a w1 h1).mono ?_
  rintro e w2 ⟨rfl, q, hq⟩
  have h2 : HasD w2 b (l ++ [a]) := by rw [hq]; exact h1
  have t2 : At b w w2 := by rw [hq]; exact t1.drewN q
  clear hq g1
  have g2 := h2.get l.length a (by simp)
  have z2 := frozen_of w2 b l.length _ 112 h2.1
  have hb := setCell_heap w2 b l.length _ 112 (.int .u16 0) h2.1
  have c3 : (w2.setCell ⟨b, l.length, none⟩ (.int .u16 0)).cell? ⟨b, 256, none⟩ = some (.int .i64 ((l.length + 1 : Nat) : Int)) := by
    refine cell_of _ b 256 _ 112 _ hb ?_
    rw [List.getElem?_set_ne (by omega)]
    have := pc_count hU 0 _ h2.2
    simpa using this
  have z3 : (w2.setCell ⟨b, l.length, none⟩ (.int .u16 0)).frozen? ⟨b, 256, none⟩ = false := frozen_of _ b 256 _ 112 hb
  have e1 : IntKind.i64.wrap (((l.length + 1 : Nat) : Int) - 1) = (l.length : Int) := by rw [i64_id _ (by omega) (by omega)]; omega
  have h3 := h2.set2
  have t3 : At b w ((w2.setCell ⟨b, l.length, none⟩ (.int .u16 0)).setCell ⟨b, 256, none⟩ (.int .i64 (l.length : Int))) := (t2.setCell b _ rfl _).setCell b _ rfl _
  generalize hK : ((l.length + 1 : Nat) : Int) = K at *
  clear hb h2 t2 hl hK
  go_wp2
  go_ret
  exact ⟨rfl, h3, t3⟩
theorem dpop (b : Nat) (l : List Int) (a : Int) (w : World) (h : HasD w b (l ++ [a])) : Calls Tryz.prog 15 #[.pointer (some ⟨b, 0, none⟩)] w fun e w' => e = .returned (.int .u16 a) ∧ HasD w' b l ∧ At b w w' := by
  have hd := dlen b _ w h
  have hn : (((l ++ [a]).length : Int) == 0) = false := by simp; omega
  generalize hK : (((l ++ [a]).length : Nat) : Int) = K at *
  clear hK
  go_enter Tryz.func15, Tryz.ntmps15
  go_wp2_with fail
  refine hd.mono ?_
  rintro e w1 ⟨rfl, rfl⟩
  go_wp2_with fail
  refine (dtake b l a _ h).mono ?_
  rintro e w2 ⟨rfl, h2, t2⟩
  go_wp2
  go_ret
  exact ⟨rfl, h2, t2⟩
theorem dpop_empty (b : Nat) (w : World) (h : HasD w b []) : Calls Tryz.prog 15 #[.pointer (some ⟨b, 0, none⟩)] w fun e w' => e = .returned (.int .u16 0) ∧ w' = w := by
  have hd := dlen b _ w h
  go_enter Tryz.func15, Tryz.ntmps15
  go_wp2_with fail
  refine hd.mono ?_
  rintro e w1 ⟨rfl, rfl⟩
  go_wp2
  go_ret
  exact ⟨rfl, rfl⟩
theorem dpop_nil (w : World) : Calls Tryz.prog 15 #[.pointer none] w fun e w' => e = .returned (.int .u16 0) ∧ w' = w := by
  have hd := dlen_nil w
  go_enter Tryz.func15, Tryz.ntmps15
  go_wp2_with fail
  refine hd.mono ?_
  rintro e w1 ⟨rfl, rfl⟩
  go_wp2
  go_ret
  exact ⟨rfl, rfl⟩
end Go.Proofs.YtgponcjjnjpfkaaGreat.S
