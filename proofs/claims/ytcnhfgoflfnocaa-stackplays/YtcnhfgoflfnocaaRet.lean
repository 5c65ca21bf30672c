import Derived.Test.YtcnhfgoflfnocaaDataC
/-! The return stack: its calls. -/
namespace Go.Proofs.Ytcnhfgoflfnocaa
open Go.RowKit
open Go.Proofs
set_option linter.unusedVariables false
set_option linter.unusedSimpArgs false
def HasR (W : World) (b : Nat) (l : List (Int × Int)) : Prop := W.heap[b]? = some (.cells (pc eK (0, 0) l).toArray 50 (0, 0)) ∧ l.length ≤ 128
theorem HasR.le {W : World} {b : Nat} {l : List (Int × Int)} (h : HasR W b l) : l.length ≤ 256 := by have := h.2; omega
theorem HasR.count {W : World} {b : Nat} {l : List (Int × Int)} (h : HasR W b l) : W.cell? ⟨b, 512, none⟩ = some (.int .i64 (l.length : Int)) := cell_of W b 512 _ 50 _ h.1 (pc_count hK (0, 0) l h.le)
theorem HasR.get {W : World} {b : Nat} {l : List (Int × Int)} (h : HasR W b l) (i : Nat) (a : Int × Int) (hi : l[i]? = some a) : W.cell? ⟨b, i * 2, none⟩ = some (.int .i64 a.1) ∧ W.cell? ⟨b, i * 2 + 1, none⟩ = some (.int .u16 a.2) :=
  ⟨cell_of W b _ _ 50 _ h.1 (pc_get hK (0, 0) l h.le i 0 a hi (by omega)), cell_of W b _ _ 50 _ h.1 (pc_get hK (0, 0) l h.le i 1 a hi (by omega))⟩
theorem HasR.kept {W W' : World} {b : Nat} {l : List (Int × Int)} (h : HasR W b l) (k : W'.heap[b]? = W.heap[b]?) : HasR W' b l := ⟨k.trans h.1, h.2⟩
theorem HasR.below {W W' : World} {b : Nat} {l : List (Int × Int)} (h : HasR W b l) (k : Below W.heap.size W W') : HasR W' b l := h.kept (k.block b (lt_of h.1))
theorem HasR.len_lt {W : World} {b : Nat} {l : List (Int × Int)} (h : HasR W b l) : (l.length : Int) ≤ 128 := by have := h.2; omega
set_option maxHeartbeats 1000000
set_option maxRecDepth 100000
theorem rlen (b : Nat) (l : List (Int × Int)) (w : World) (h : HasR w b l) : Calls Try.prog 18 #[.pointer (some ⟨b, 0, none⟩)] w fun e w' => e = .returned (.int .i64 (l.length : Int)) ∧ w' = w := by
  have c := h.count
  clear h
  go_enter Try.func18, Try.ntmps18
  go_wp2
  go_ret
  exact ⟨rfl, rfl⟩
theorem rlen_nil (w : World) : Calls Try.prog 18 #[.pointer none] w fun e w' => e = .returned (.int .i64 0) ∧ w' = w := by
  go_enter Try.func18, Try.ntmps18
  go_wp2
  go_ret
  exact ⟨rfl, rfl⟩
theorem rtop (b : Nat) (l : List (Int × Int)) (i n : Nat) (hi : i + n + 1 = l.length) (w : World) (h : HasR w b l) : Calls Try.prog 27 #[.pointer (some ⟨b, 0, none⟩), .int .i64 (n : Int)] w fun e w' => e = .returned (.pointer (some ⟨b, i * 2, none⟩)) ∧ ∃ q, w' = w.drewN q := by
  have c := h.count
  have hl := h.2
  have e1 : IntKind.i64.wrap ((l.length : Int) - 1) = (l.length : Int) - 1 := by rw [i64_id _ (by omega) (by omega)]
  have e2 : IntKind.i64.wrap ((l.length : Int) - 1 - (n : Int)) = (i : Int) := by rw [i64_id _ (by omega) (by omega)]; omega
  have hk : (i : Int) < 256 := by omega
  have hk2 : i < 256 := by omega
  clear h hi hl
  go_enter Try.func27, Try.ntmps27
  go_wp2_with fail
  go_quiet (fail)
  go_wp2
  go_ret
  exact ⟨rfl, _, rfl⟩
/-- At: the three ways. -/
theorem rat_under (b : Nat) (l : List (Int × Int)) (n kind : Int) (hn : n < 0 ∨ (l.length : Int) ≤ n) (w : World) (h : HasR w b l) :
    Calls Try.prog 15 #[.pointer (some ⟨b, 0, none⟩), .int .i64 n, .int .i64 kind] w fun e w' => e = .returned (.tuple #[.int .u16 0, .int .i64 3]) ∧ w' = w := by
  have hd := rlen b l w h
  clear h
  by_cases a : n < 0
  · go_enter Try.func15, Try.ntmps15
    go_wp2
    go_ret2
    exact ⟨rfl, rfl⟩
  · have e1 : decide (n < 0) = false := decide_eq_false a
    have e2 : decide ((l.length : Int) ≤ n) = true := decide_eq_true (by omega)
    go_enter Try.func15, Try.ntmps15
    go_wp2_with fail
    refine hd.mono ?_
    rintro e w1 ⟨rfl, rfl⟩
    go_wp2
    go_ret2
    exact ⟨rfl, rfl⟩
theorem rat_nil (n kind : Int) (hn : n < 0 ∨ 0 ≤ n) (w : World) : Calls Try.prog 15 #[.pointer none, .int .i64 n, .int .i64 kind] w fun e w' => e = .returned (.tuple #[.int .u16 0, .int .i64 3]) ∧ w' = w := by
  have hd := rlen_nil w
  by_cases a : n < 0
  · go_enter Try.func15, Try.ntmps15
    go_wp2
    go_ret2
    exact ⟨rfl, rfl⟩
  · have e1 : decide (n < 0) = false := decide_eq_false a
    have e2 : decide (0 ≤ n) = true := decide_eq_true (by omega)
    go_enter Try.func15, Try.ntmps15
    go_wp2_with fail
    refine hd.mono ?_
    rintro e w1 ⟨rfl, rfl⟩
    go_wp2
    go_ret2
    exact ⟨rfl, rfl⟩
theorem rat_kind (b : Nat) (l : List (Int × Int)) (i n : Nat) (hi : i + n + 1 = l.length) (k v : Int) (ha : l[i]? = some (k, v)) (kind : Int) (hne : k ≠ kind) (w : World) (h : HasR w b l) :
    Calls Try.prog 15 #[.pointer (some ⟨b, 0, none⟩), .int .i64 (n : Int), .int .i64 kind] w fun e w' => e = .returned (.tuple #[.int .u16 0, .int .i64 5]) ∧ ∃ q, w' = w.drewN q := by
  have hd := rlen b l w h
  have ht := rtop b l i n hi w h
  have hg := fun q => HasR.get (W := w.drewN q) (b := b) (l := l) h i (k, v) ha
  have e0 : decide ((n : Int) < 0) = false := decide_eq_false (by omega)
  have e2 : decide ((l.length : Int) ≤ (n : Int)) = false := decide_eq_false (by omega)
  have e3 : (k != kind) = true := by simp [hne]
  clear h hi hne ha
  generalize hN : (n : Int) = N at *
  clear hN
  go_enter Try.func15, Try.ntmps15
  go_wp2_with fail
  refine hd.mono ?_
  rintro e w1 ⟨rfl, hw1⟩
  obtain rfl := hw1.symm
  go_wp2_with fail
  refine ht.mono ?_
  rintro e w2 ⟨rfl, q, rfl⟩
  have g1 := (hg q).1
  clear hg hd ht
  go_wp2
  go_ret2
  exact ⟨rfl, _, rfl⟩
theorem rat_ok (b : Nat) (l : List (Int × Int)) (i n : Nat) (hi : i + n + 1 = l.length) (k v : Int) (ha : l[i]? = some (k, v)) (w : World) (h : HasR w b l) :
    Calls Try.prog 15 #[.pointer (some ⟨b, 0, none⟩), .int .i64 (n : Int), .int .i64 k] w fun e w' => e = .returned (.tuple #[.int .u16 v, .int .i64 0]) ∧ ∃ q, w' = w.drewN q := by
  have hd := rlen b l w h
  have ht := rtop b l i n hi w h
  have hg := fun q => HasR.get (W := w.drewN q) (b := b) (l := l) h i (k, v) ha
  have e0 : decide ((n : Int) < 0) = false := decide_eq_false (by omega)
  have e2 : decide ((l.length : Int) ≤ (n : Int)) = false := decide_eq_false (by omega)
  clear h hi ha
  generalize hN : (n : Int) = N at *
  clear hN
  go_enter Try.func15, Try.ntmps15
  go_wp2_with fail
  refine hd.mono ?_
  rintro e w1 ⟨rfl, hw1⟩
  obtain rfl := hw1.symm
  go_wp2_with fail
  refine ht.mono ?_
  rintro e w2 ⟨rfl, q, rfl⟩
  have g1 := (hg q).1
  have g2 := (hg q).2
  clear hg hd ht
  go_wp2
  go_ret2
  exact ⟨rfl, _, rfl⟩
end Go.Proofs.Ytcnhfgoflfnocaa
