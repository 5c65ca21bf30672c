import Derived.Test.YtgponcjjnjpfkaaGreatSDataB
import Derived.Deep.RegionWith
/-! The data stack: Cells. -/
namespace Go.Proofs.YtgponcjjnjpfkaaGreat.S
open Go.RowKit
open Go.Proofs
set_option linter.unusedVariables false
set_option linter.unusedSimpArgs false
def RowU (W : World) (B : Nat) (v : Value) (l : List Int) : Prop := W.ownsRow B 26 1 v l.length (en eU l)
theorem RowU.ls {W : World} {B : Nat} {v : Value} {l : List Int} (h : RowU W B v l) : Ls eU 1 W v l := own_sl hU h
theorem HasD.ls {W : World} {b : Nat} {l : List Int} (h : HasD W b l) : Ls eU 1 W (.slice (some ⟨b, 0, none⟩) l.length 256) l := by
  refine .inr ⟨_, 256, rfl, h.2, fun i a hi => ⟨b, 0, rfl, fun j u hj => ?_⟩⟩
  have hj' : j < 1 := (List.getElem?_eq_some_iff.1 hj).1
  refine cell_of W b _ _ 112 _ h.1 ?_
  rw [Nat.zero_add, pc_get hU 0 l h.2 i j a hi hj']; exact hj
set_option maxHeartbeats 1000000
set_option maxRecDepth 100000
theorem uclone (x : Addr) (l : List Int) (c : Nat) (hl : l.length ≤ 1000000) (w : World) (h : Ls eU 1 w (.slice (some x) l.length c) l) :
    Calls Tryz.prog 76 #[.slice (some x) l.length c] w fun e w' => ∃ u, e = .returned u ∧ RowU w' w.heap.size u l ∧ Below w.heap.size w w' := by
  have hr0 := own_empty w 26 1
  have hb0 : Below w.heap.size w (w.alloc (.cells #[] 26)) := (Below.refl _ _).alloc (Nat.le_refl _) _
  have hs0 := (h.below hb0).cs hU (by omega) oneU
  have hn := fun (W : World) => eql_nil 27 26 Tryz.underlying27 W (some x) l.length c
  clear h
  go_enter Tryz.func76, Tryz.ntmps76
  go_wp2_with (first | (at_builtin; refine wpList_append_row _ rfl _ _ 27 26 _ 1 2 Tryz.underlying27 info32 rfl (by decide) rfl w.heap.size _ 0 [] rfl hr0 _ l.length (en eU l) rfl hs0 (by unfold room; omega) (by unfold maxLen; omega) hb0.size ?_))
  intro v' w' hr hg
  go_wp2
  go_ret
  refine ⟨_, rfl, ?_, hg.belowAll (fun g e => (hr0.lt g e).1) hb0 (Nat.le_refl _)⟩
  simpa [RowU] using hr
theorem dall (b : Nat) (l : List Int) (w : World) (h : HasD w b l) : Calls Tryz.prog 51 #[.pointer (some ⟨b, 0, none⟩)] w fun e w' => ∃ u, e = .returned u ∧ RowU w' w.heap.size u l ∧ Below w.heap.size w w' := by
  have cn := h.count
  have hk := h.len_lt
  have hd : HasD w.drew b l := h
  have hc := uclone ⟨b, 0, none⟩ l 256 (by have := h.2; omega) w.drew hd.ls
  clear h hd
  go_enter Tryz.func51, Tryz.ntmps51
  go_wp2_with fail
  go_region_with (go_at_call 76; refine hc.mono ?_; rintro e w1 ⟨u, rfl, h1, h2⟩)
  go_wp2
  go_ret
  exact ⟨_, rfl, h1, ⟨h2.os, h2.tape, h2.output, h2.size, h2.block⟩⟩
theorem dcells (b : Nat) (l : List Int) (w : World) (h : HasD w b l) : Calls Tryz.prog 17 #[.pointer (some ⟨b, 0, none⟩)] w fun e w' => ∃ u, e = .returned u ∧ RowU w' w.heap.size u l ∧ Below w.heap.size w w' := by
  have hc := dall b l w h
  clear h
  go_enter Tryz.func17, Tryz.ntmps17
  go_wp2_with fail
  refine hc.mono ?_
  rintro e w1 ⟨u, rfl, h1, h2⟩
  go_wp2
  go_ret
  exact ⟨_, rfl, h1, h2⟩
theorem dcells_nil (w : World) : Calls Tryz.prog 17 #[.pointer none] w fun e w' => e = .returned (.slice none 0 0) ∧ w' = w := by
  go_enter Tryz.func17, Tryz.ntmps17
  go_wp2
  go_ret
  exact ⟨rfl, rfl⟩
/-- Need at a nil stack, at the three that the law asks. -/
theorem dneed_nil (i o v : Int) (hv : (i = 0 ∧ o = 0 ∧ v = 0) ∨ (i = 1 ∧ o = 0 ∧ v = 1) ∨ (i = 0 ∧ o = 257 ∧ v = 2)) (w : World) : Calls Tryz.prog 46 #[.pointer none, .int .i64 i, .int .i64 o] w fun e w' => e = .returned (.int .i64 v) ∧ w' = w := by
  have hd := dlen_nil w
  have e3 : IntKind.i64.wrap 256 = 256 := by decide
  rcases hv with ⟨rfl, rfl, rfl⟩ | ⟨rfl, rfl, rfl⟩ | ⟨rfl, rfl, rfl⟩
  · go_enter Tryz.func46, Tryz.ntmps46
    go_wp2_with fail
    refine hd.mono ?_
    rintro e w1 ⟨rfl, rfl⟩
    go_wp2_with fail
    refine hd.mono ?_
    rintro e w1 ⟨rfl, rfl⟩
    go_wp2
    go_ret
    exact ⟨rfl, rfl⟩
  · go_enter Tryz.func46, Tryz.ntmps46
    go_wp2_with fail
    refine hd.mono ?_
    rintro e w1 ⟨rfl, rfl⟩
    go_wp2
    go_ret
    exact ⟨rfl, rfl⟩
  · go_enter Tryz.func46, Tryz.ntmps46
    go_wp2_with fail
    refine hd.mono ?_
    rintro e w1 ⟨rfl, rfl⟩
    go_wp2_with fail
    refine hd.mono ?_
    rintro e w1 ⟨rfl, rfl⟩
    go_wp2
    go_ret
    exact ⟨rfl, rfl⟩
end Go.Proofs.YtgponcjjnjpfkaaGreat.S
/-! The return stack: its calls. -/
namespace Go.Proofs.YtgponcjjnjpfkaaGreat.S
open Go.RowKit
open Go.Proofs
set_option linter.unusedVariables false
set_option linter.unusedSimpArgs false
def HasR (W : World) (b : Nat) (l : List (Int × Int)) : Prop := W.heap[b]? = some (.cells (pc eK (0, 0) l).toArray 107 (0, 0)) ∧ l.length ≤ 128
theorem HasR.le {W : World} {b : Nat} {l : List (Int × Int)} (h : HasR W b l) : l.length ≤ 256 := by have := h.2; omega
theorem HasR.count {W : World} {b : Nat} {l : List (Int × Int)} (h : HasR W b l) : W.cell? ⟨b, 512, none⟩ = some (.int .i64 (l.length : Int)) := cell_of W b 512 _ 107 _ h.1 (pc_count hK (0, 0) l h.le)
theorem HasR.get {W : World} {b : Nat} {l : List (Int × Int)} (h : HasR W b l) (i : Nat) (a : Int × Int) (hi : l[i]? = some a) : W.cell? ⟨b, i * 2, none⟩ = some (.int .i64 a.1) ∧ W.cell? ⟨b, i * 2 + 1, none⟩ = some (.int .u16 a.2) :=
  ⟨cell_of W b _ _ 107 _ h.1 (pc_get hK (0, 0) l h.le i 0 a hi (by omega)), cell_of W b _ _ 107 _ h.1 (pc_get hK (0, 0) l h.le i 1 a hi (by omega))⟩
theorem HasR.kept {W W' : World} {b : Nat} {l : List (Int × Int)} (h : HasR W b l) (k : W'.heap[b]? = W.heap[b]?) : HasR W' b l := ⟨k.trans h.1, h.2⟩
theorem HasR.below {W W' : World} {b : Nat} {l : List (Int × Int)} (h : HasR W b l) (k : Below W.heap.size W W') : HasR W' b l := h.kept (k.block b (lt_of h.1))
theorem HasR.len_lt {W : World} {b : Nat} {l : List (Int × Int)} (h : HasR W b l) : (l.length : Int) ≤ 128 := by have := h.2; omega
set_option maxHeartbeats 1000000
set_option maxRecDepth 100000
theorem rlen (b : Nat) (l : List (Int × Int)) (w : World) (h : HasR w b l) : Calls Tryz.prog 19 #[.pointer (some ⟨b, 0, none⟩)] w fun e w' => e = .returned (.int .i64 (l.length : Int)) ∧ w' = w := by
  have c := h.count
  clear h
  go_enter Tryz.func19, Tryz.ntmps19
  go_wp2
  go_ret
  exact ⟨rfl, rfl⟩
theorem rlen_nil (w : World) : Calls Tryz.prog 19 #[.pointer none] w fun e w' => e = .returned (.int .i64 0) ∧ w' = w := by
  go_enter Tryz.func19, Tryz.ntmps19
  go_wp2
  go_ret
  exact ⟨rfl, rfl⟩
theorem rtop (b : Nat) (l : List (Int × Int)) (i n : Nat) (hi : i + n + 1 = l.length) (w : World) (h : HasR w b l) : Calls Tryz.prog 123 #[.pointer (some ⟨b, 0, none⟩), .int .i64 (n : Int)] w fun e w' => e = .returned (.pointer (some ⟨b, i * 2, none⟩)) ∧ ∃ q, w' = w.drewN q := by
  have c := h.count
  have hl := h.2
  have e1 : IntKind.i64.wrap ((l.length : Int) - 1) = (l.length : Int) - 1 := by rw [i64_id _ (by omega) (by omega)]
  have e2 : IntKind.i64.wrap ((l.length : Int) - 1 - (n : Int)) = (i : Int) := by rw [i64_id _ (by omega) (by omega)]; omega
  have hk : (i : Int) < 256 := by omega
  have hk2 : i < 256 := by omega
  clear h hi hl
  go_enter Tryz.func123, Tryz.ntmps123
  go_wp2_with fail
  go_quiet (fail)
  go_wp2
  go_ret
  exact ⟨rfl, _, rfl⟩
/-- At: the three ways. -/
theorem rat_under (b : Nat) (l : List (Int × Int)) (n kind : Int) (hn : n < 0 ∨ (l.length : Int) ≤ n) (w : World) (h : HasR w b l) :
    Calls Tryz.prog 73 #[.pointer (some ⟨b, 0, none⟩), .int .i64 n, .int .i64 kind] w fun e w' => e = .returned (.tuple #[.int .u16 0, .int .i64 3]) ∧ w' = w := by
  have hd := rlen b l w h
  clear h
  by_cases a : n < 0
  · go_enter Tryz.func73, Tryz.ntmps73
    go_wp2
    go_ret2
    exact ⟨rfl, rfl⟩
  · have e1 : decide (n < 0) = false := decide_eq_false a
    have e2 : decide ((l.length : Int) ≤ n) = true := decide_eq_true (by omega)
    go_enter Tryz.func73, Tryz.ntmps73
    go_wp2_with fail
    refine hd.mono ?_
    rintro e w1 ⟨rfl, rfl⟩
    go_wp2
    go_ret2
    exact ⟨rfl, rfl⟩
theorem rat_nil (n kind : Int) (hn : n < 0 ∨ 0 ≤ n) (w : World) : Calls Tryz.prog 73 #[.pointer none, .int .i64 n, .int .i64 kind] w fun e w' => e = .returned (.tuple #[.int .u16 0, .int .i64 3]) ∧ w' = w := by
  have hd := rlen_nil w
  by_cases a : n < 0
  · go_enter Tryz.func73, Tryz.ntmps73
    go_wp2
    go_ret2
    exact ⟨rfl, rfl⟩
  · have e1 : decide (n < 0) = false := decide_eq_false a
    have e2 : decide (0 ≤ n) = true := decide_eq_true (by omega)
    go_enter Tryz.func73, Tryz.ntmps73
    go_wp2_with fail
    refine hd.mono ?_
    rintro e w1 ⟨rfl, rfl⟩
    go_wp2
    go_ret2
    exact ⟨rfl, rfl⟩
theorem rat_kind (b : Nat) (l : List (Int × Int)) (i n : Nat) (hi : i + n + 1 = l.length) (k v : Int) (ha : l[i]? = some (k, v)) (kind : Int) (hne : k ≠ kind) (w : World) (h : HasR w b l) :
    Calls Tryz.prog 73 #[.pointer (some ⟨b, 0, none⟩), .int .i64 (n : Int), .int .i64 kind] w fun e w' => e = .returned (.tuple #[.int .u16 0, .int .i64 5]) ∧ ∃ q, w' = w.drewN q := by
  have hd := rlen b l w h
  have ht := rtop b l i n hi w h
  have hg := fun q => HasR.get (W := w.drewN q) (b := b) (l := l) h i (k, v) ha
  have e0 : decide ((n : Int) < 0) = false := decide_eq_false (by omega)
  have e2 : decide ((l.length : Int) ≤ (n : Int)) = false := decide_eq_false (by omega)
  have e3 : (k != kind) = true := by simp [hne]
  clear h hi hne ha
  generalize hN : (n : Int) = N at *
  clear hN
  go_enter Tryz.func73, Tryz.ntmps73
  go_wp2_with fail
  refine hd.mono ?_
  rintro e w1 ⟨rfl, hw1⟩
  obtain rfl := hw1.symm
  go_wp2_with fail
  refine ht.mono ?_
  rintro e w2 ⟨rfl, q, rfl⟩
  have g1 := (hg q).1
  clear hg hd ht
  go_wp2
  go_ret2
  exact ⟨rfl, _, rfl⟩
theorem rat_ok (b : Nat) (l : List (Int × Int)) (i n : Nat) (hi : i + n + 1 = l.length) (k v : Int) (ha : l[i]? = some (k, v)) (w : World) (h : HasR w b l) :
    Calls Tryz.prog 73 #[.pointer (some ⟨b, 0, none⟩), .int .i64 (n : Int), .int .i64 k] w fun e w' => e = .returned (.tuple #[.int .u16 v, .int .i64 0]) ∧ ∃ q, w' = w.drewN q := by
  have hd := rlen b l w h
  have ht := rtop b l i n hi w h
  have hg := fun q => HasR.get (W := w.drewN q) (b := b) (l := l) h i (k, v) ha
  have e0 : decide ((n : Int) < 0) = false := decide_eq_false (by omega)
  have e2 : decide ((l.length : Int) ≤ (n : Int)) = false := decide_eq_false (by omega)
  clear h hi ha
  generalize hN : (n : Int) = N at *
  clear hN
  go_enter Tryz.func73, Tryz.ntmps73
  go_wp2_with fail
  refine hd.mono ?_
  rintro e w1 ⟨rfl, hw1⟩
  obtain rfl := hw1.symm
  go_wp2_with fail
  refine ht.mono ?_
  rintro e w2 ⟨rfl, q, rfl⟩
  have g1 := (hg q).1
  have g2 := (hg q).2
  clear hg hd ht
  go_wp2
  go_ret2
  exact ⟨rfl, _, rfl⟩
end Go.Proofs.YtgponcjjnjpfkaaGreat.S
