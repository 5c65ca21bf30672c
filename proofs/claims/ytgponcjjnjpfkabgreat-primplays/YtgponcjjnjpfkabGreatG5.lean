import Derived.Test.YtgponcjjnjpfkabGreatG4
import Derived.Deep.RegionHeld
/-! What shuffles do. -/
namespace Go.Proofs.YtgponcjjnjpfkabGreat.P
open Go.RowKit
open Go.Proofs
set_option linter.unusedVariables false
set_option linter.unusedSimpArgs false
set_option maxHeartbeats 2000000
set_option maxRecDepth 100000
theorem do_nop (op x y z s : Int) (bd br bm : Nat) (F : Nat → Prop) (D : List Int) (R : List (Int × Int)) (m : M.MS) (W : World) (h : PS W bd br bm F D R m)  :
    Calls Tryz.prog 106 #[.agg #[.int .i64 op, .int .u16 x, .int .u16 y, .int .u16 z, .int .u16 s, .pointer (some ⟨bd, 0, none⟩), .pointer (some ⟨br, 0, none⟩), .pointer (some ⟨bm, 0, none⟩)]] W fun e W' => e = .returned (.tuple #[]) ∧ PD W W' bd br bm F (D) (R) (m) := by
  go_enter Tryz.func106, Tryz.ntmps106
  go_wp2
  go_end0
  exact ⟨rfl, h.same (bel_alloc W _)⟩
theorem do_drop (op x y z s : Int) (bd br bm : Nat) (F : Nat → Prop) (D : List Int) (R : List (Int × Int)) (m : M.MS) (W : World) (h : PS W bd br bm F D R m)  :
    Calls Tryz.prog 109 #[.agg #[.int .i64 op, .int .u16 x, .int .u16 y, .int .u16 z, .int .u16 s, .pointer (some ⟨bd, 0, none⟩), .pointer (some ⟨br, 0, none⟩), .pointer (some ⟨bm, 0, none⟩)]] W fun e W' => e = .returned (.tuple #[]) ∧ PD W W' bd br bm F (D) (R) (m) := by
  go_enter Tryz.func109, Tryz.ntmps109
  go_wp2
  go_end0
  exact ⟨rfl, h.same (bel_alloc W _)⟩
theorem do_drop2 (op x y z s : Int) (bd br bm : Nat) (F : Nat → Prop) (D : List Int) (R : List (Int × Int)) (m : M.MS) (W : World) (h : PS W bd br bm F D R m)  :
    Calls Tryz.prog 116 #[.agg #[.int .i64 op, .int .u16 x, .int .u16 y, .int .u16 z, .int .u16 s, .pointer (some ⟨bd, 0, none⟩), .pointer (some ⟨br, 0, none⟩), .pointer (some ⟨bm, 0, none⟩)]] W fun e W' => e = .returned (.tuple #[]) ∧ PD W W' bd br bm F (D) (R) (m) := by
  go_enter Tryz.func116, Tryz.ntmps116
  go_wp2
  go_end0
  exact ⟨rfl, h.same (bel_alloc W _)⟩
theorem do_dup (op x y z s : Int) (bd br bm : Nat) (F : Nat → Prop) (D : List Int) (R : List (Int × Int)) (m : M.MS) (W : World) (h : PS W bd br bm F D R m) (hl : D.length + 2 ≤ 256) :
    Calls Tryz.prog 107 #[.agg #[.int .i64 op, .int .u16 x, .int .u16 y, .int .u16 z, .int .u16 s, .pointer (some ⟨bd, 0, none⟩), .pointer (some ⟨br, 0, none⟩), .pointer (some ⟨bm, 0, none⟩)]] W fun e W' => e = .returned (.tuple #[]) ∧ PD W W' bd br bm F (D ++ [x, x]) (R) (m) := by
  have hb := (bel_alloc W (.cells #[.int .i64 op, .int .u16 x, .int .u16 y, .int .u16 z, .int .u16 s, .pointer (some ⟨bd, 0, none⟩), .pointer (some ⟨br, 0, none⟩), .pointer (some ⟨bm, 0, none⟩)] 129)).alloc (bel_alloc W (.cells #[.int .i64 op, .int .u16 x, .int .u16 y, .int .u16 z, .int .u16 s, .pointer (some ⟨bd, 0, none⟩), .pointer (some ⟨br, 0, none⟩), .pointer (some ⟨bm, 0, none⟩)] 129)).size (.cells #[.int .u16 x, .int .u16 x] 31)
  have hs : S.Sl S.eU 1 ((W.alloc (.cells #[.int .i64 op, .int .u16 x, .int .u16 y, .int .u16 z, .int .u16 s, .pointer (some ⟨bd, 0, none⟩), .pointer (some ⟨br, 0, none⟩), .pointer (some ⟨bm, 0, none⟩)] 129)).alloc (.cells #[.int .u16 x, .int .u16 x] 31)) (some ⟨W.heap.size + 1, 0, none⟩) [x, x] := sl_block S.hU _ _ 31 _ (heap_alloc2_new W _ _)
  have hp := put_any op x y z s bd br bm D [x, x] (some ⟨W.heap.size + 1, 0, none⟩) 2 _ (h.d.below hb) hs hl
  simp only [List.length_cons, List.length_nil, Nat.reduceAdd] at hp
  clear hb hs
  go_enter Tryz.func107, Tryz.ntmps107
  go_wp2_with fail
  refine hp.mono ?_
  rintro e w1 ⟨rfl, h1, h2⟩
  go_wp2
  go_end0
  exact ⟨rfl, h.put h1 (at_alloc _ (at_alloc _ h2))⟩
theorem do_swap (op x y z s : Int) (bd br bm : Nat) (F : Nat → Prop) (D : List Int) (R : List (Int × Int)) (m : M.MS) (W : World) (h : PS W bd br bm F D R m) (hl : D.length + 2 ≤ 256) :
    Calls Tryz.prog 110 #[.agg #[.int .i64 op, .int .u16 x, .int .u16 y, .int .u16 z, .int .u16 s, .pointer (some ⟨bd, 0, none⟩), .pointer (some ⟨br, 0, none⟩), .pointer (some ⟨bm, 0, none⟩)]] W fun e W' => e = .returned (.tuple #[]) ∧ PD W W' bd br bm F (D ++ [y, x]) (R) (m) := by
  have hb := (bel_alloc W (.cells #[.int .i64 op, .int .u16 x, .int .u16 y, .int .u16 z, .int .u16 s, .pointer (some ⟨bd, 0, none⟩), .pointer (some ⟨br, 0, none⟩), .pointer (some ⟨bm, 0, none⟩)] 129)).alloc (bel_alloc W (.cells #[.int .i64 op, .int .u16 x, .int .u16 y, .int .u16 z, .int .u16 s, .pointer (some ⟨bd, 0, none⟩), .pointer (some ⟨br, 0, none⟩), .pointer (some ⟨bm, 0, none⟩)] 129)).size (.cells #[.int .u16 y, .int .u16 x] 31)
  have hs : S.Sl S.eU 1 ((W.alloc (.cells #[.int .i64 op, .int .u16 x, .int .u16 y, .int .u16 z, .int .u16 s, .pointer (some ⟨bd, 0, none⟩), .pointer (some ⟨br, 0, none⟩), .pointer (some ⟨bm, 0, none⟩)] 129)).alloc (.cells #[.int .u16 y, .int .u16 x] 31)) (some ⟨W.heap.size + 1, 0, none⟩) [y, x] := sl_block S.hU _ _ 31 _ (heap_alloc2_new W _ _)
  have hp := put_any op x y z s bd br bm D [y, x] (some ⟨W.heap.size + 1, 0, none⟩) 2 _ (h.d.below hb) hs hl
  simp only [List.length_cons, List.length_nil, Nat.reduceAdd] at hp
  clear hb hs
  go_enter Tryz.func110, Tryz.ntmps110
  go_wp2_with fail
  refine hp.mono ?_
  rintro e w1 ⟨rfl, h1, h2⟩
  go_wp2
  go_end0
  exact ⟨rfl, h.put h1 (at_alloc _ (at_alloc _ h2))⟩
theorem do_over (op x y z s : Int) (bd br bm : Nat) (F : Nat → Prop) (D : List Int) (R : List (Int × Int)) (m : M.MS) (W : World) (h : PS W bd br bm F D R m) (hl : D.length + 3 ≤ 256) :
    Calls Tryz.prog 111 #[.agg #[.int .i64 op, .int .u16 x, .int .u16 y, .int .u16 z, .int .u16 s, .pointer (some ⟨bd, 0, none⟩), .pointer (some ⟨br, 0, none⟩), .pointer (some ⟨bm, 0, none⟩)]] W fun e W' => e = .returned (.tuple #[]) ∧ PD W W' bd br bm F (D ++ [x, y, x]) (R) (m) := by
  have hb := (bel_alloc W (.cells #[.int .i64 op, .int .u16 x, .int .u16 y, .int .u16 z, .int .u16 s, .pointer (some ⟨bd, 0, none⟩), .pointer (some ⟨br, 0, none⟩), .pointer (some ⟨bm, 0, none⟩)] 129)).alloc (bel_alloc W (.cells #[.int .i64 op, .int .u16 x, .int .u16 y, .int .u16 z, .int .u16 s, .pointer (some ⟨bd, 0, none⟩), .pointer (some ⟨br, 0, none⟩), .pointer (some ⟨bm, 0, none⟩)] 129)).size (.cells #[.int .u16 x, .int .u16 y, .int .u16 x] 31)
  have hs : S.Sl S.eU 1 ((W.alloc (.cells #[.int .i64 op, .int .u16 x, .int .u16 y, .int .u16 z, .int .u16 s, .pointer (some ⟨bd, 0, none⟩), .pointer (some ⟨br, 0, none⟩), .pointer (some ⟨bm, 0, none⟩)] 129)).alloc (.cells #[.int .u16 x, .int .u16 y, .int .u16 x] 31)) (some ⟨W.heap.size + 1, 0, none⟩) [x, y, x] := sl_block S.hU _ _ 31 _ (heap_alloc2_new W _ _)
  have hp := put_any op x y z s bd br bm D [x, y, x] (some ⟨W.heap.size + 1, 0, none⟩) 3 _ (h.d.below hb) hs hl
  simp only [List.length_cons, List.length_nil, Nat.reduceAdd] at hp
  clear hb hs
  go_enter Tryz.func111, Tryz.ntmps111
  go_wp2_with fail
  refine hp.mono ?_
  rintro e w1 ⟨rfl, h1, h2⟩
  go_wp2
  go_end0
  exact ⟨rfl, h.put h1 (at_alloc _ (at_alloc _ h2))⟩
theorem do_rot (op x y z s : Int) (bd br bm : Nat) (F : Nat → Prop) (D : List Int) (R : List (Int × Int)) (m : M.MS) (W : World) (h : PS W bd br bm F D R m) (hl : D.length + 3 ≤ 256) :
    Calls Tryz.prog 112 #[.agg #[.int .i64 op, .int .u16 x, .int .u16 y, .int .u16 z, .int .u16 s, .pointer (some ⟨bd, 0, none⟩), .pointer (some ⟨br, 0, none⟩), .pointer (some ⟨bm, 0, none⟩)]] W fun e W' => e = .returned (.tuple #[]) ∧ PD W W' bd br bm F (D ++ [y, z, x]) (R) (m) := by
  have hb := (bel_alloc W (.cells #[.int .i64 op, .int .u16 x, .int .u16 y, .int .u16 z, .int .u16 s, .pointer (some ⟨bd, 0, none⟩), .pointer (some ⟨br, 0, none⟩), .pointer (some ⟨bm, 0, none⟩)] 129)).alloc (bel_alloc W (.cells #[.int .i64 op, .int .u16 x, .int .u16 y, .int .u16 z, .int .u16 s, .pointer (some ⟨bd, 0, none⟩), .pointer (some ⟨br, 0, none⟩), .pointer (some ⟨bm, 0, none⟩)] 129)).size (.cells #[.int .u16 y, .int .u16 z, .int .u16 x] 31)
  have hs : S.Sl S.eU 1 ((W.alloc (.cells #[.int .i64 op, .int .u16 x, .int .u16 y, .int .u16 z, .int .u16 s, .pointer (some ⟨bd, 0, none⟩), .pointer (some ⟨br, 0, none⟩), .pointer (some ⟨bm, 0, none⟩)] 129)).alloc (.cells #[.int .u16 y, .int .u16 z, .int .u16 x] 31)) (some ⟨W.heap.size + 1, 0, none⟩) [y, z, x] := sl_block S.hU _ _ 31 _ (heap_alloc2_new W _ _)
  have hp := put_any op x y z s bd br bm D [y, z, x] (some ⟨W.heap.size + 1, 0, none⟩) 3 _ (h.d.below hb) hs hl
  simp only [List.length_cons, List.length_nil, Nat.reduceAdd] at hp
  clear hb hs
  go_enter Tryz.func112, Tryz.ntmps112
  go_wp2_with fail
  refine hp.mono ?_
  rintro e w1 ⟨rfl, h1, h2⟩
  go_wp2
  go_end0
  exact ⟨rfl, h.put h1 (at_alloc _ (at_alloc _ h2))⟩
theorem do_nip (op x y z s : Int) (bd br bm : Nat) (F : Nat → Prop) (D : List Int) (R : List (Int × Int)) (m : M.MS) (W : World) (h : PS W bd br bm F D R m) (hl : D.length + 1 ≤ 256) :
    Calls Tryz.prog 113 #[.agg #[.int .i64 op, .int .u16 x, .int .u16 y, .int .u16 z, .int .u16 s, .pointer (some ⟨bd, 0, none⟩), .pointer (some ⟨br, 0, none⟩), .pointer (some ⟨bm, 0, none⟩)]] W fun e W' => e = .returned (.tuple #[]) ∧ PD W W' bd br bm F (D ++ [y]) (R) (m) := by
  have hb := (bel_alloc W (.cells #[.int .i64 op, .int .u16 x, .int .u16 y, .int .u16 z, .int .u16 s, .pointer (some ⟨bd, 0, none⟩), .pointer (some ⟨br, 0, none⟩), .pointer (some ⟨bm, 0, none⟩)] 129)).alloc (bel_alloc W (.cells #[.int .i64 op, .int .u16 x, .int .u16 y, .int .u16 z, .int .u16 s, .pointer (some ⟨bd, 0, none⟩), .pointer (some ⟨br, 0, none⟩), .pointer (some ⟨bm, 0, none⟩)] 129)).size (.cells #[.int .u16 y] 31)
  have hs : S.Sl S.eU 1 ((W.alloc (.cells #[.int .i64 op, .int .u16 x, .int .u16 y, .int .u16 z, .int .u16 s, .pointer (some ⟨bd, 0, none⟩), .pointer (some ⟨br, 0, none⟩), .pointer (some ⟨bm, 0, none⟩)] 129)).alloc (.cells #[.int .u16 y] 31)) (some ⟨W.heap.size + 1, 0, none⟩) [y] := sl_block S.hU _ _ 31 _ (heap_alloc2_new W _ _)
  have hp := put_any op x y z s bd br bm D [y] (some ⟨W.heap.size + 1, 0, none⟩) 1 _ (h.d.below hb) hs hl
  simp only [List.length_cons, List.length_nil, Nat.reduceAdd] at hp
  clear hb hs
  go_enter Tryz.func113, Tryz.ntmps113
  go_wp2_with fail
  refine hp.mono ?_
  rintro e w1 ⟨rfl, h1, h2⟩
  go_wp2
  go_end0
  exact ⟨rfl, h.put h1 (at_alloc _ (at_alloc _ h2))⟩
theorem do_tuck (op x y z s : Int) (bd br bm : Nat) (F : Nat → Prop) (D : List Int) (R : List (Int × Int)) (m : M.MS) (W : World) (h : PS W bd br bm F D R m) (hl : D.length + 3 ≤ 256) :
    Calls Tryz.prog 114 #[.agg #[.int .i64 op, .int .u16 x, .int .u16 y, .int .u16 z, .int .u16 s, .pointer (some ⟨bd, 0, none⟩), .pointer (some ⟨br, 0, none⟩), .pointer (some ⟨bm, 0, none⟩)]] W fun e W' => e = .returned (.tuple #[]) ∧ PD W W' bd br bm F (D ++ [y, x, y]) (R) (m) := by
  have hb := (bel_alloc W (.cells #[.int .i64 op, .int .u16 x, .int .u16 y, .int .u16 z, .int .u16 s, .pointer (some ⟨bd, 0, none⟩), .pointer (some ⟨br, 0, none⟩), .pointer (some ⟨bm, 0, none⟩)] 129)).alloc (bel_alloc W (.cells #[.int .i64 op, .int .u16 x, .int .u16 y, .int .u16 z, .int .u16 s, .pointer (some ⟨bd, 0, none⟩), .pointer (some ⟨br, 0, none⟩), .pointer (some ⟨bm, 0, none⟩)] 129)).size (.cells #[.int .u16 y, .int .u16 x, .int .u16 y] 31)
  have hs : S.Sl S.eU 1 ((W.alloc (.cells #[.int .i64 op, .int .u16 x, .int .u16 y, .int .u16 z, .int .u16 s, .pointer (some ⟨bd, 0, none⟩), .pointer (some ⟨br, 0, none⟩), .pointer (some ⟨bm, 0, none⟩)] 129)).alloc (.cells #[.int .u16 y, .int .u16 x, .int .u16 y] 31)) (some ⟨W.heap.size + 1, 0, none⟩) [y, x, y] := sl_block S.hU _ _ 31 _ (heap_alloc2_new W _ _)
  have hp := put_any op x y z s bd br bm D [y, x, y] (some ⟨W.heap.size + 1, 0, none⟩) 3 _ (h.d.below hb) hs hl
  simp only [List.length_cons, List.length_nil, Nat.reduceAdd] at hp
  clear hb hs
  go_enter Tryz.func114, Tryz.ntmps114
  go_wp2_with fail
  refine hp.mono ?_
  rintro e w1 ⟨rfl, h1, h2⟩
  go_wp2
  go_end0
  exact ⟨rfl, h.put h1 (at_alloc _ (at_alloc _ h2))⟩
theorem do_dup2 (op x y z s : Int) (bd br bm : Nat) (F : Nat → Prop) (D : List Int) (R : List (Int × Int)) (m : M.MS) (W : World) (h : PS W bd br bm F D R m) (hl : D.length + 4 ≤ 256) :
    Calls Tryz.prog 115 #[.agg #[.int .i64 op, .int .u16 x, .int .u16 y, .int .u16 z, .int .u16 s, .pointer (some ⟨bd, 0, none⟩), .pointer (some ⟨br, 0, none⟩), .pointer (some ⟨bm, 0, none⟩)]] W fun e W' => e = .returned (.tuple #[]) ∧ PD W W' bd br bm F (D ++ [x, y, x, y]) (R) (m) := by
  have hb := (bel_alloc W (.cells #[.int .i64 op, .int .u16 x, .int .u16 y, .int .u16 z, .int .u16 s, .pointer (some ⟨bd, 0, none⟩), .pointer (some ⟨br, 0, none⟩), .pointer (some ⟨bm, 0, none⟩)] 129)).alloc (bel_alloc W (.cells #[.int .i64 op, .int .u16 x, .int .u16 y, .int .u16 z, .int .u16 s, .pointer (some ⟨bd, 0, none⟩), .pointer (some ⟨br, 0, none⟩), .pointer (some ⟨bm, 0, none⟩)] 129)).size (.cells #[.int .u16 x, .int .u16 y, .int .u16 x, .int .u16 y] 31)
  have hs : S.Sl S.eU 1 ((W.alloc (.cells #[.int .i64 op, .int .u16 x, .int .u16 y, .int .u16 z, .int .u16 s, .pointer (some ⟨bd, 0, none⟩), .pointer (some ⟨br, 0, none⟩), .pointer (some ⟨bm, 0, none⟩)] 129)).alloc (.cells #[.int .u16 x, .int .u16 y, .int .u16 x, .int .u16 y] 31)) (some ⟨W.heap.size + 1, 0, none⟩) [x, y, x, y] := sl_block S.hU _ _ 31 _ (heap_alloc2_new W _ _)
  have hp := put_any op x y z s bd br bm D [x, y, x, y] (some ⟨W.heap.size + 1, 0, none⟩) 4 _ (h.d.below hb) hs hl
  simp only [List.length_cons, List.length_nil, Nat.reduceAdd] at hp
  clear hb hs
  go_enter Tryz.func115, Tryz.ntmps115
  go_wp2_with fail
  refine hp.mono ?_
  rintro e w1 ⟨rfl, h1, h2⟩
  go_wp2
  go_end0
  exact ⟨rfl, h.put h1 (at_alloc _ (at_alloc _ h2))⟩
theorem do_peek (op x y z s : Int) (bd br bm : Nat) (F : Nat → Prop) (D : List Int) (R : List (Int × Int)) (m : M.MS) (W : World) (h : PS W bd br bm F D R m) (hl : D.length + 1 ≤ 256) :
    Calls Tryz.prog 147 #[.agg #[.int .i64 op, .int .u16 x, .int .u16 y, .int .u16 z, .int .u16 s, .pointer (some ⟨bd, 0, none⟩), .pointer (some ⟨br, 0, none⟩), .pointer (some ⟨bm, 0, none⟩)]] W fun e W' => e = .returned (.tuple #[]) ∧ PD W W' bd br bm F (D ++ [s]) (R) (m) := by
  have hb := (bel_alloc W (.cells #[.int .i64 op, .int .u16 x, .int .u16 y, .int .u16 z, .int .u16 s, .pointer (some ⟨bd, 0, none⟩), .pointer (some ⟨br, 0, none⟩), .pointer (some ⟨bm, 0, none⟩)] 129)).alloc (bel_alloc W (.cells #[.int .i64 op, .int .u16 x, .int .u16 y, .int .u16 z, .int .u16 s, .pointer (some ⟨bd, 0, none⟩), .pointer (some ⟨br, 0, none⟩), .pointer (some ⟨bm, 0, none⟩)] 129)).size (.cells #[.int .u16 s] 31)
  have hs : S.Sl S.eU 1 ((W.alloc (.cells #[.int .i64 op, .int .u16 x, .int .u16 y, .int .u16 z, .int .u16 s, .pointer (some ⟨bd, 0, none⟩), .pointer (some ⟨br, 0, none⟩), .pointer (some ⟨bm, 0, none⟩)] 129)).alloc (.cells #[.int .u16 s] 31)) (some ⟨W.heap.size + 1, 0, none⟩) [s] := sl_block S.hU _ _ 31 _ (heap_alloc2_new W _ _)
  have hp := put_any op x y z s bd br bm D [s] (some ⟨W.heap.size + 1, 0, none⟩) 1 _ (h.d.below hb) hs hl
  simp only [List.length_cons, List.length_nil, Nat.reduceAdd] at hp
  clear hb hs
  go_enter Tryz.func147, Tryz.ntmps147
  go_wp2_with fail
  refine hp.mono ?_
  rintro e w1 ⟨rfl, h1, h2⟩
  go_wp2
  go_end0
  exact ⟨rfl, h.put h1 (at_alloc _ (at_alloc _ h2))⟩
theorem do_do (op x y z s : Int) (bd br bm : Nat) (F : Nat → Prop) (D : List Int) (R : List (Int × Int)) (m : M.MS) (W : World) (h : PS W bd br bm F D R m) (hl : R.length + 2 ≤ 128) :
    Calls Tryz.prog 104 #[.agg #[.int .i64 op, .int .u16 x, .int .u16 y, .int .u16 z, .int .u16 s, .pointer (some ⟨bd, 0, none⟩), .pointer (some ⟨br, 0, none⟩), .pointer (some ⟨bm, 0, none⟩)]] W fun e W' => e = .returned (.tuple #[]) ∧ PD W W' bd br bm F (D) (R ++ [(2, x), (3, y)]) (m) := by
  have hb := (bel_alloc W (.cells #[.int .i64 op, .int .u16 x, .int .u16 y, .int .u16 z, .int .u16 s, .pointer (some ⟨bd, 0, none⟩), .pointer (some ⟨br, 0, none⟩), .pointer (some ⟨bm, 0, none⟩)] 129)).alloc (bel_alloc W (.cells #[.int .i64 op, .int .u16 x, .int .u16 y, .int .u16 z, .int .u16 s, .pointer (some ⟨bd, 0, none⟩), .pointer (some ⟨br, 0, none⟩), .pointer (some ⟨bm, 0, none⟩)] 129)).size (.cells #[.int .i64 2, .int .u16 x, .int .i64 3, .int .u16 y] 68)
  have hs : S.Sl S.eK 2 ((W.alloc (.cells #[.int .i64 op, .int .u16 x, .int .u16 y, .int .u16 z, .int .u16 s, .pointer (some ⟨bd, 0, none⟩), .pointer (some ⟨br, 0, none⟩), .pointer (some ⟨bm, 0, none⟩)] 129)).alloc (.cells #[.int .i64 2, .int .u16 x, .int .i64 3, .int .u16 y] 68)) (some ⟨W.heap.size + 1, 0, none⟩) [(2, x), (3, y)] := sl_block S.hK _ _ 68 _ (heap_alloc2_new W _ _)
  have hp := save_any op x y z s bd br bm R [(2, x), (3, y)] (some ⟨W.heap.size + 1, 0, none⟩) 2 _ (h.r.below hb) hs hl
  simp only [List.length_cons, List.length_nil, Nat.reduceAdd] at hp
  clear hb hs
  go_enter Tryz.func104, Tryz.ntmps104
  go_wp2_with fail
  refine hp.mono ?_
  rintro e w1 ⟨rfl, h1, h2⟩
  go_wp2
  go_end0
  exact ⟨rfl, h.save h1 (at_alloc _ (at_alloc _ h2))⟩
theorem do_toR (op x y z s : Int) (bd br bm : Nat) (F : Nat → Prop) (D : List Int) (R : List (Int × Int)) (m : M.MS) (W : World) (h : PS W bd br bm F D R m) (hl : R.length + 1 ≤ 128) :
    Calls Tryz.prog 125 #[.agg #[.int .i64 op, .int .u16 x, .int .u16 y, .int .u16 z, .int .u16 s, .pointer (some ⟨bd, 0, none⟩), .pointer (some ⟨br, 0, none⟩), .pointer (some ⟨bm, 0, none⟩)]] W fun e W' => e = .returned (.tuple #[]) ∧ PD W W' bd br bm F (D) (R ++ [(4, x)]) (m) := by
  have hb := (bel_alloc W (.cells #[.int .i64 op, .int .u16 x, .int .u16 y, .int .u16 z, .int .u16 s, .pointer (some ⟨bd, 0, none⟩), .pointer (some ⟨br, 0, none⟩), .pointer (some ⟨bm, 0, none⟩)] 129)).alloc (bel_alloc W (.cells #[.int .i64 op, .int .u16 x, .int .u16 y, .int .u16 z, .int .u16 s, .pointer (some ⟨bd, 0, none⟩), .pointer (some ⟨br, 0, none⟩), .pointer (some ⟨bm, 0, none⟩)] 129)).size (.cells #[.int .i64 4, .int .u16 x] 68)
  have hs : S.Sl S.eK 2 ((W.alloc (.cells #[.int .i64 op, .int .u16 x, .int .u16 y, .int .u16 z, .int .u16 s, .pointer (some ⟨bd, 0, none⟩), .pointer (some ⟨br, 0, none⟩), .pointer (some ⟨bm, 0, none⟩)] 129)).alloc (.cells #[.int .i64 4, .int .u16 x] 68)) (some ⟨W.heap.size + 1, 0, none⟩) [(4, x)] := sl_block S.hK _ _ 68 _ (heap_alloc2_new W _ _)
  have hp := save_any op x y z s bd br bm R [(4, x)] (some ⟨W.heap.size + 1, 0, none⟩) 1 _ (h.r.below hb) hs hl
  simp only [List.length_cons, List.length_nil, Nat.reduceAdd] at hp
  clear hb hs
  go_enter Tryz.func125, Tryz.ntmps125
  go_wp2_with fail
  refine hp.mono ?_
  rintro e w1 ⟨rfl, h1, h2⟩
  go_wp2
  go_end0
  exact ⟨rfl, h.save h1 (at_alloc _ (at_alloc _ h2))⟩
theorem do_un (op x y z s : Int) (bd br bm : Nat) (F : Nat → Prop) (D : List Int) (R : List (Int × Int)) (m : M.MS) (W : World) (h : PS W bd br bm F D R m) (hx : C.C x) (hl : D.length + 1 ≤ 256) :
    Calls Tryz.prog 144 #[.agg #[.int .i64 op, .int .u16 x, .int .u16 y, .int .u16 z, .int .u16 s, .pointer (some ⟨bd, 0, none⟩), .pointer (some ⟨br, 0, none⟩), .pointer (some ⟨bm, 0, none⟩)]] W fun e W' => e = .returned (.tuple #[]) ∧ PD W W' bd br bm F (D ++ [C.un op x]) (R) (m) := by
  have hn := C.unary_any op x hx (W.alloc (.cells #[.int .i64 op, .int .u16 x, .int .u16 y, .int .u16 z, .int .u16 s, .pointer (some ⟨bd, 0, none⟩), .pointer (some ⟨br, 0, none⟩), .pointer (some ⟨bm, 0, none⟩)] 129))
  generalize C.un op x = v at *
  have hb := (bel_alloc W (.cells #[.int .i64 op, .int .u16 x, .int .u16 y, .int .u16 z, .int .u16 s, .pointer (some ⟨bd, 0, none⟩), .pointer (some ⟨br, 0, none⟩), .pointer (some ⟨bm, 0, none⟩)] 129)).alloc (bel_alloc W (.cells #[.int .i64 op, .int .u16 x, .int .u16 y, .int .u16 z, .int .u16 s, .pointer (some ⟨bd, 0, none⟩), .pointer (some ⟨br, 0, none⟩), .pointer (some ⟨bm, 0, none⟩)] 129)).size (.cells #[.int .u16 v] 31)
  have hs : S.Sl S.eU 1 ((W.alloc (.cells #[.int .i64 op, .int .u16 x, .int .u16 y, .int .u16 z, .int .u16 s, .pointer (some ⟨bd, 0, none⟩), .pointer (some ⟨br, 0, none⟩), .pointer (some ⟨bm, 0, none⟩)] 129)).alloc (.cells #[.int .u16 v] 31)) (some ⟨W.heap.size + 1, 0, none⟩) [v] := sl_block S.hU _ _ 31 _ (heap_alloc2_new W _ _)
  have hp := put_any op x y z s bd br bm D [v] (some ⟨W.heap.size + 1, 0, none⟩) 1 _ (h.d.below hb) hs hl
  simp only [List.length_cons, List.length_nil, Nat.reduceAdd] at hp
  clear hb hs
  go_enter Tryz.func144, Tryz.ntmps144
  go_wp2_with fail
  refine hn.mono ?_
  rintro e w1 ⟨rfl, rfl⟩
  go_wp2_with fail
  refine hp.mono ?_
  rintro e w1 ⟨rfl, h1, h2⟩
  go_wp2
  go_end0
  exact ⟨rfl, h.put h1 (at_alloc _ (at_alloc _ h2))⟩
theorem do_bin (op x y z s : Int) (bd br bm : Nat) (F : Nat → Prop) (D : List Int) (R : List (Int × Int)) (m : M.MS) (W : World) (h : PS W bd br bm F D R m) (hx : C.C x) (hy : C.C y) (hl : D.length + 1 ≤ 256) :
    Calls Tryz.prog 142 #[.agg #[.int .i64 op, .int .u16 x, .int .u16 y, .int .u16 z, .int .u16 s, .pointer (some ⟨bd, 0, none⟩), .pointer (some ⟨br, 0, none⟩), .pointer (some ⟨bm, 0, none⟩)]] W fun e W' => e = .returned (.tuple #[]) ∧ PD W W' bd br bm F (D ++ [C.bi op x y]) (R) (m) := by
  have hn := C.binary_any op x y hx hy (W.alloc (.cells #[.int .i64 op, .int .u16 x, .int .u16 y, .int .u16 z, .int .u16 s, .pointer (some ⟨bd, 0, none⟩), .pointer (some ⟨br, 0, none⟩), .pointer (some ⟨bm, 0, none⟩)] 129))
  generalize C.bi op x y = v at *
  have hb := (bel_alloc W (.cells #[.int .i64 op, .int .u16 x, .int .u16 y, .int .u16 z, .int .u16 s, .pointer (some ⟨bd, 0, none⟩), .pointer (some ⟨br, 0, none⟩), .pointer (some ⟨bm, 0, none⟩)] 129)).alloc (bel_alloc W (.cells #[.int .i64 op, .int .u16 x, .int .u16 y, .int .u16 z, .int .u16 s, .pointer (some ⟨bd, 0, none⟩), .pointer (some ⟨br, 0, none⟩), .pointer (some ⟨bm, 0, none⟩)] 129)).size (.cells #[.int .u16 v] 31)
  have hs : S.Sl S.eU 1 ((W.alloc (.cells #[.int .i64 op, .int .u16 x, .int .u16 y, .int .u16 z, .int .u16 s, .pointer (some ⟨bd, 0, none⟩), .pointer (some ⟨br, 0, none⟩), .pointer (some ⟨bm, 0, none⟩)] 129)).alloc (.cells #[.int .u16 v] 31)) (some ⟨W.heap.size + 1, 0, none⟩) [v] := sl_block S.hU _ _ 31 _ (heap_alloc2_new W _ _)
  have hp := put_any op x y z s bd br bm D [v] (some ⟨W.heap.size + 1, 0, none⟩) 1 _ (h.d.below hb) hs hl
  simp only [List.length_cons, List.length_nil, Nat.reduceAdd] at hp
  clear hb hs
  go_enter Tryz.func142, Tryz.ntmps142
  go_wp2_with fail
  refine hn.mono ?_
  rintro e w1 ⟨rfl, rfl⟩
  go_wp2_with fail
  refine hp.mono ?_
  rintro e w1 ⟨rfl, h1, h2⟩
  go_wp2
  go_end0
  exact ⟨rfl, h.put h1 (at_alloc _ (at_alloc _ h2))⟩
end Go.Proofs.YtgponcjjnjpfkabGreat.P
/-! What those that write the memory do. -/
namespace Go.Proofs.YtgponcjjnjpfkabGreat.P
open Go.RowKit
open Go.Proofs
set_option linter.unusedVariables false
set_option linter.unusedSimpArgs false
set_option maxHeartbeats 2000000
set_option maxRecDepth 100000
theorem b8_conv (v : Int) : IntKind.u8.wrap v = M.bt (M.b8 v) := by rw [M.bt_b8]; simp [IntKind.wrap, IntKind.bits, IntKind.signed]
theorem do_store (op x y z s : Int) (bd br bm : Nat) (F : Nat → Prop) (D : List Int) (R : List (Int × Int)) (m : M.MS) (W : World) (h : PS W bd br bm F D R m) (hx : C.C x) (hy : C.C y)(ht : m.tones.length ≤ 999000) :
    Calls Tryz.prog 120 #[.agg #[.int .i64 op, .int .u16 x, .int .u16 y, .int .u16 z, .int .u16 s, .pointer (some ⟨bd, 0, none⟩), .pointer (some ⟨br, 0, none⟩), .pointer (some ⟨bm, 0, none⟩)]] W fun e W' => e = .returned (.tuple #[]) ∧ PD W W' bd br bm F (D) (R) (M.sc m y x) := by
  have hb := bel_alloc W (.cells #[.int .i64 op, .int .u16 x, .int .u16 y, .int .u16 z, .int .u16 s, .pointer (some ⟨bd, 0, none⟩), .pointer (some ⟨br, 0, none⟩), .pointer (some ⟨bm, 0, none⟩)] 129)
  have hk := h.below hb
  have hp := M.setCell_any bm y hy.1 hy.2 x hx.1 hx.2 _ hk.m (by omega)
  go_enter Tryz.func120, Tryz.ntmps120
  go_wp2_with fail
  refine hp.mono ?_
  rintro e w1 ⟨rfl, h1⟩
  go_wp2
  go_end0
  exact ⟨rfl, PD.ahead (S.lt_of h.d.1) (S.lt_of h.r.1) hb (hk.mem h1)⟩
theorem do_cstore (op x y z s : Int) (bd br bm : Nat) (F : Nat → Prop) (D : List Int) (R : List (Int × Int)) (m : M.MS) (W : World) (h : PS W bd br bm F D R m) (hx : C.C x) (hy : C.C y)(ht : m.tones.length ≤ 999000) :
    Calls Tryz.prog 123 #[.agg #[.int .i64 op, .int .u16 x, .int .u16 y, .int .u16 z, .int .u16 s, .pointer (some ⟨bd, 0, none⟩), .pointer (some ⟨br, 0, none⟩), .pointer (some ⟨bm, 0, none⟩)]] W fun e W' => e = .returned (.tuple #[]) ∧ PD W W' bd br bm F (D) (R) (M.st m y (M.b8 x)) := by
  have hb := bel_alloc W (.cells #[.int .i64 op, .int .u16 x, .int .u16 y, .int .u16 z, .int .u16 s, .pointer (some ⟨bd, 0, none⟩), .pointer (some ⟨br, 0, none⟩), .pointer (some ⟨bm, 0, none⟩)] 129)
  have hk := h.below hb
  have hv := b8_conv x
  have hp := M.store_any bm y hy.1 hy.2 (M.b8 x) _ hk.m (by omega)
  go_enter Tryz.func123, Tryz.ntmps123
  go_wp2_with fail
  refine hp.mono ?_
  rintro e w1 ⟨rfl, h1⟩
  go_wp2
  go_end0
  exact ⟨rfl, PD.ahead (S.lt_of h.d.1) (S.lt_of h.r.1) hb (hk.mem h1)⟩
theorem do_plot (op x y z s : Int) (bd br bm : Nat) (F : Nat → Prop) (D : List Int) (R : List (Int × Int)) (m : M.MS) (W : World) (h : PS W bd br bm F D R m) (hx : C.C x) (hy : C.C y)(ht : m.tones.length ≤ 999000) :
    Calls Tryz.prog 129 #[.agg #[.int .i64 op, .int .u16 x, .int .u16 y, .int .u16 z, .int .u16 s, .pointer (some ⟨bd, 0, none⟩), .pointer (some ⟨br, 0, none⟩), .pointer (some ⟨bm, 0, none⟩)]] W fun e W' => e = .returned (.tuple #[]) ∧ PD W W' bd br bm F (D) (R) (M.plt m x y z) := by
  have hb := bel_alloc W (.cells #[.int .i64 op, .int .u16 x, .int .u16 y, .int .u16 z, .int .u16 s, .pointer (some ⟨bd, 0, none⟩), .pointer (some ⟨br, 0, none⟩), .pointer (some ⟨bm, 0, none⟩)] 129)
  have hk := h.below hb
  have hp := M.plot_any bm x y z hx.1 hx.2 hy.1 hy.2 _ hk.m (by omega)
  go_enter Tryz.func129, Tryz.ntmps129
  go_wp2_with fail
  refine hp.mono ?_
  rintro e w1 ⟨rfl, h1⟩
  go_wp2
  go_end0
  exact ⟨rfl, PD.ahead (S.lt_of h.d.1) (S.lt_of h.r.1) hb (hk.mem h1)⟩
theorem do_tone (op x y z s : Int) (bd br bm : Nat) (F : Nat → Prop) (D : List Int) (R : List (Int × Int)) (m : M.MS) (W : World) (h : PS W bd br bm F D R m) (hx : C.C x) (hy : C.C y)(ht : m.tones.length ≤ 999000) :
    Calls Tryz.prog 133 #[.agg #[.int .i64 op, .int .u16 x, .int .u16 y, .int .u16 z, .int .u16 s, .pointer (some ⟨bd, 0, none⟩), .pointer (some ⟨br, 0, none⟩), .pointer (some ⟨bm, 0, none⟩)]] W fun e W' => e = .returned (.tuple #[]) ∧ PD W W' bd br bm F (D) (R) (M.st (M.sc m 65284 x) 65286 (M.b8 y)) := by
  have hb := bel_alloc W (.cells #[.int .i64 op, .int .u16 x, .int .u16 y, .int .u16 z, .int .u16 s, .pointer (some ⟨bd, 0, none⟩), .pointer (some ⟨br, 0, none⟩), .pointer (some ⟨bm, 0, none⟩)] 129)
  have hk := h.below hb
  have hv := b8_conv y
  have hp := M.play_any bm x hx.1 hx.2 (M.b8 y) _ hk.m (by omega)
  go_enter Tryz.func133, Tryz.ntmps133
  go_wp2_with fail
  refine hp.mono ?_
  rintro e w1 ⟨rfl, h1⟩
  go_wp2
  go_end0
  exact ⟨rfl, PD.ahead (S.lt_of h.d.1) (S.lt_of h.r.1) hb (hk.mem h1)⟩
theorem do_bank (op x y z s : Int) (bd br bm : Nat) (F : Nat → Prop) (D : List Int) (R : List (Int × Int)) (m : M.MS) (W : World) (h : PS W bd br bm F D R m) (hx : C.C x) (hy : C.C y)(ht : m.tones.length ≤ 999000) :
    Calls Tryz.prog 135 #[.agg #[.int .i64 op, .int .u16 x, .int .u16 y, .int .u16 z, .int .u16 s, .pointer (some ⟨bd, 0, none⟩), .pointer (some ⟨br, 0, none⟩), .pointer (some ⟨bm, 0, none⟩)]] W fun e W' => e = .returned (.tuple #[]) ∧ PD W W' bd br bm F (D) (R) (M.st m 65280 (M.b8 x)) := by
  have hb := bel_alloc W (.cells #[.int .i64 op, .int .u16 x, .int .u16 y, .int .u16 z, .int .u16 s, .pointer (some ⟨bd, 0, none⟩), .pointer (some ⟨br, 0, none⟩), .pointer (some ⟨bm, 0, none⟩)] 129)
  have hk := h.below hb
  have hp := M.choose_any bm x _ hk.m (by omega)
  go_enter Tryz.func135, Tryz.ntmps135
  go_wp2_with fail
  refine hp.mono ?_
  rintro e w1 ⟨rfl, h1⟩
  go_wp2
  go_end0
  exact ⟨rfl, PD.ahead (S.lt_of h.d.1) (S.lt_of h.r.1) hb (hk.mem h1)⟩
end Go.Proofs.YtgponcjjnjpfkabGreat.P
/-! What those that read the memory do. -/
namespace Go.Proofs.YtgponcjjnjpfkabGreat.P
open Go.RowKit
open Go.Proofs
set_option linter.unusedVariables false
set_option linter.unusedSimpArgs false
set_option maxHeartbeats 2000000
set_option maxRecDepth 100000
theorem do_fetch (op x y z s : Int) (bd br bm : Nat) (F : Nat → Prop) (D : List Int) (R : List (Int × Int)) (m : M.MS) (W : World) (h : PS W bd br bm F D R m) (hx : C.C x) (hl : D.length + 1 ≤ 256) :
    Calls Tryz.prog 119 #[.agg #[.int .i64 op, .int .u16 x, .int .u16 y, .int .u16 z, .int .u16 s, .pointer (some ⟨bd, 0, none⟩), .pointer (some ⟨br, 0, none⟩), .pointer (some ⟨bm, 0, none⟩)]] W fun e W' => e = .returned (.tuple #[]) ∧ PD W W' bd br bm F (D ++ [M.cl m x]) (R) (m) := by
  have hb := bel_alloc W (.cells #[.int .i64 op, .int .u16 x, .int .u16 y, .int .u16 z, .int .u16 s, .pointer (some ⟨bd, 0, none⟩), .pointer (some ⟨br, 0, none⟩), .pointer (some ⟨bm, 0, none⟩)] 129)
  have hk := h.below hb
  have hc := M.cell_any bm x hx.1 hx.2 (W.alloc (.cells #[.int .i64 op, .int .u16 x, .int .u16 y, .int .u16 z, .int .u16 s, .pointer (some ⟨bd, 0, none⟩), .pointer (some ⟨br, 0, none⟩), .pointer (some ⟨bm, 0, none⟩)] 129)).drew (hk.m.kept fun i hi _ => rfl)
  have hp : ∀ q, Calls Tryz.prog 108 #[.agg #[.int .i64 op, .int .u16 x, .int .u16 y, .int .u16 z, .int .u16 s, .pointer (some ⟨bd, 0, none⟩), .pointer (some ⟨br, 0, none⟩), .pointer (some ⟨bm, 0, none⟩)], .slice (some ⟨W.heap.size + 1, 0, none⟩) 1 1] (((W.alloc (.cells #[.int .i64 op, .int .u16 x, .int .u16 y, .int .u16 z, .int .u16 s, .pointer (some ⟨bd, 0, none⟩), .pointer (some ⟨br, 0, none⟩), .pointer (some ⟨bm, 0, none⟩)] 129)).drewN q).alloc (.cells #[.int .u16 (M.cl m x)] 31)) fun e W' => e = .returned (.tuple #[]) ∧ S.HasD W' bd (D ++ [M.cl m x]) ∧ S.At bd W W' := fun q => by
    have b2 : Below W.heap.size W (((W.alloc (.cells #[.int .i64 op, .int .u16 x, .int .u16 y, .int .u16 z, .int .u16 s, .pointer (some ⟨bd, 0, none⟩), .pointer (some ⟨br, 0, none⟩), .pointer (some ⟨bm, 0, none⟩)] 129)).drewN q).alloc (.cells #[.int .u16 (M.cl m x)] 31)) := (⟨hb.os, hb.tape, hb.output, hb.size, hb.block⟩ : Below W.heap.size W ((W.alloc (.cells #[.int .i64 op, .int .u16 x, .int .u16 y, .int .u16 z, .int .u16 s, .pointer (some ⟨bd, 0, none⟩), .pointer (some ⟨br, 0, none⟩), .pointer (some ⟨bm, 0, none⟩)] 129)).drewN q)).alloc hb.size _
    have hs : S.Sl S.eU 1 (((W.alloc (.cells #[.int .i64 op, .int .u16 x, .int .u16 y, .int .u16 z, .int .u16 s, .pointer (some ⟨bd, 0, none⟩), .pointer (some ⟨br, 0, none⟩), .pointer (some ⟨bm, 0, none⟩)] 129)).drewN q).alloc (.cells #[.int .u16 (M.cl m x)] 31)) (some ⟨W.heap.size + 1, 0, none⟩) [M.cl m x] := sl_block S.hU _ _ 31 _ (by
      have := heap_alloc_new ((W.alloc (.cells #[.int .i64 op, .int .u16 x, .int .u16 y, .int .u16 z, .int .u16 s, .pointer (some ⟨bd, 0, none⟩), .pointer (some ⟨br, 0, none⟩), .pointer (some ⟨bm, 0, none⟩)] 129)).drewN q) (.cells #[.int .u16 (M.cl m x)] 31)
      have e : ((W.alloc (.cells #[.int .i64 op, .int .u16 x, .int .u16 y, .int .u16 z, .int .u16 s, .pointer (some ⟨bd, 0, none⟩), .pointer (some ⟨br, 0, none⟩), .pointer (some ⟨bm, 0, none⟩)] 129)).drewN q).heap.size = W.heap.size + 1 := by show (W.alloc _).heap.size = _; simp
      rw [e] at this; exact this)
    have hp := put_any op x y z s bd br bm D [M.cl m x] (some ⟨W.heap.size + 1, 0, none⟩) 1 _ (h.d.below b2) hs hl
    simp only [List.length_cons, List.length_nil, Nat.reduceAdd] at hp
    exact hp.mono fun e W' ⟨a, b, c⟩ => ⟨a, b, c.os.trans b2.os, c.tape.trans b2.tape, c.output.trans b2.output, Nat.le_trans b2.size c.size, fun k hk hn => (c.block k (Nat.lt_of_lt_of_le hk b2.size) hn).trans (b2.block k hk)⟩
  have H : Hid _ := S.hid h
  clear h hk hb
  go_enter Tryz.func119, Tryz.ntmps119
  go_wp2_with fail
  go_region_with (first | (go_at_call 61; refine hc.mono ?_; rintro e w1 ⟨rfl, q, rfl⟩) | (go_at_call 108; refine (hp _).mono ?_; rintro e w2 ⟨rfl, h1, h2⟩))
  all_goals go_wp2
  all_goals go_end0
  all_goals exact ⟨rfl, H.out.put h1 h2⟩
end Go.Proofs.YtgponcjjnjpfkabGreat.P
/-! c@. -/
namespace Go.Proofs.YtgponcjjnjpfkabGreat.P
open Go.RowKit
open Go.Proofs
set_option linter.unusedVariables false
set_option linter.unusedSimpArgs false
set_option maxHeartbeats 2000000
set_option maxRecDepth 100000
theorem do_cfetch (op x y z s : Int) (bd br bm : Nat) (F : Nat → Prop) (D : List Int) (R : List (Int × Int)) (m : M.MS) (W : World) (h : PS W bd br bm F D R m) (hx : C.C x) (hl : D.length + 1 ≤ 256) :
    Calls Tryz.prog 122 #[.agg #[.int .i64 op, .int .u16 x, .int .u16 y, .int .u16 z, .int .u16 s, .pointer (some ⟨bd, 0, none⟩), .pointer (some ⟨br, 0, none⟩), .pointer (some ⟨bm, 0, none⟩)]] W fun e W' => e = .returned (.tuple #[]) ∧ PD W W' bd br bm F (D ++ [M.ld m x]) (R) (m) := by
  have hb := bel_alloc W (.cells #[.int .i64 op, .int .u16 x, .int .u16 y, .int .u16 z, .int .u16 s, .pointer (some ⟨bd, 0, none⟩), .pointer (some ⟨br, 0, none⟩), .pointer (some ⟨bm, 0, none⟩)] 129)
  have hk := h.below hb
  have hc := M.load_any bm x hx.1 hx.2 (W.alloc (.cells #[.int .i64 op, .int .u16 x, .int .u16 y, .int .u16 z, .int .u16 s, .pointer (some ⟨bd, 0, none⟩), .pointer (some ⟨br, 0, none⟩), .pointer (some ⟨bm, 0, none⟩)] 129)).drew (hk.m.kept fun i hi _ => rfl)
  have hp : ∀ q, Calls Tryz.prog 108 #[.agg #[.int .i64 op, .int .u16 x, .int .u16 y, .int .u16 z, .int .u16 s, .pointer (some ⟨bd, 0, none⟩), .pointer (some ⟨br, 0, none⟩), .pointer (some ⟨bm, 0, none⟩)], .slice (some ⟨W.heap.size + 1, 0, none⟩) 1 1] (((W.alloc (.cells #[.int .i64 op, .int .u16 x, .int .u16 y, .int .u16 z, .int .u16 s, .pointer (some ⟨bd, 0, none⟩), .pointer (some ⟨br, 0, none⟩), .pointer (some ⟨bm, 0, none⟩)] 129)).drewN q).alloc (.cells #[.int .u16 (M.ld m x)] 31)) fun e W' => e = .returned (.tuple #[]) ∧ S.HasD W' bd (D ++ [M.ld m x]) ∧ S.At bd W W' := fun q => by
    have b2 : Below W.heap.size W (((W.alloc (.cells #[.int .i64 op, .int .u16 x, .int .u16 y, .int .u16 z, .int .u16 s, .pointer (some ⟨bd, 0, none⟩), .pointer (some ⟨br, 0, none⟩), .pointer (some ⟨bm, 0, none⟩)] 129)).drewN q).alloc (.cells #[.int .u16 (M.ld m x)] 31)) := (⟨hb.os, hb.tape, hb.output, hb.size, hb.block⟩ : Below W.heap.size W ((W.alloc (.cells #[.int .i64 op, .int .u16 x, .int .u16 y, .int .u16 z, .int .u16 s, .pointer (some ⟨bd, 0, none⟩), .pointer (some ⟨br, 0, none⟩), .pointer (some ⟨bm, 0, none⟩)] 129)).drewN q)).alloc hb.size _
    have hs : S.Sl S.eU 1 (((W.alloc (.cells #[.int .i64 op, .int .u16 x, .int .u16 y, .int .u16 z, .int .u16 s, .pointer (some ⟨bd, 0, none⟩), .pointer (some ⟨br, 0, none⟩), .pointer (some ⟨bm, 0, none⟩)] 129)).drewN q).alloc (.cells #[.int .u16 (M.ld m x)] 31)) (some ⟨W.heap.size + 1, 0, none⟩) [M.ld m x] := sl_block S.hU _ _ 31 _ (by
      have := heap_alloc_new ((W.alloc (.cells #[.int .i64 op, .int .u16 x, .int .u16 y, .int .u16 z, .int .u16 s, .pointer (some ⟨bd, 0, none⟩), .pointer (some ⟨br, 0, none⟩), .pointer (some ⟨bm, 0, none⟩)] 129)).drewN q) (.cells #[.int .u16 (M.ld m x)] 31)
      have e : ((W.alloc (.cells #[.int .i64 op, .int .u16 x, .int .u16 y, .int .u16 z, .int .u16 s, .pointer (some ⟨bd, 0, none⟩), .pointer (some ⟨br, 0, none⟩), .pointer (some ⟨bm, 0, none⟩)] 129)).drewN q).heap.size = W.heap.size + 1 := by show (W.alloc _).heap.size = _; simp
      rw [e] at this; exact this)
    have hp := put_any op x y z s bd br bm D [M.ld m x] (some ⟨W.heap.size + 1, 0, none⟩) 1 _ (h.d.below b2) hs hl
    simp only [List.length_cons, List.length_nil, Nat.reduceAdd] at hp
    exact hp.mono fun e W' ⟨a, b, c⟩ => ⟨a, b, c.os.trans b2.os, c.tape.trans b2.tape, c.output.trans b2.output, Nat.le_trans b2.size c.size, fun k hk hn => (c.block k (Nat.lt_of_lt_of_le hk b2.size) hn).trans (b2.block k hk)⟩
  have hv : IntKind.u16.wrap (M.ld m x) = M.ld m x := by
    have := M.ld_bound m hk.m.wf x
    simp [IntKind.wrap, IntKind.bits, IntKind.signed]; omega
  have H : Hid _ := S.hid h
  clear h hk hb
  go_enter Tryz.func122, Tryz.ntmps122
  go_wp2_with fail
  go_region_with (first | (go_at_call 100; refine hc.mono ?_; rintro e w1 ⟨rfl, q, rfl⟩) | (go_at_call 108; refine (hp _).mono ?_; rintro e w2 ⟨rfl, h1, h2⟩))
  all_goals go_wp2
  all_goals go_end0
  all_goals exact ⟨rfl, H.out.put h1 h2⟩
end Go.Proofs.YtgponcjjnjpfkabGreat.P
/-! pad. -/
namespace Go.Proofs.YtgponcjjnjpfkabGreat.P
open Go.RowKit
open Go.Proofs
set_option linter.unusedVariables false
set_option linter.unusedSimpArgs false
set_option maxHeartbeats 2000000
set_option maxRecDepth 100000
theorem do_pad (op x y z s : Int) (bd br bm : Nat) (F : Nat → Prop) (D : List Int) (R : List (Int × Int)) (m : M.MS) (W : World) (h : PS W bd br bm F D R m)  (hl : D.length + 1 ≤ 256) :
    Calls Tryz.prog 131 #[.agg #[.int .i64 op, .int .u16 x, .int .u16 y, .int .u16 z, .int .u16 s, .pointer (some ⟨bd, 0, none⟩), .pointer (some ⟨br, 0, none⟩), .pointer (some ⟨bm, 0, none⟩)]] W fun e W' => e = .returned (.tuple #[]) ∧ PD W W' bd br bm F (D ++ [m.pad]) (R) (m) := by
  have hb := bel_alloc W (.cells #[.int .i64 op, .int .u16 x, .int .u16 y, .int .u16 z, .int .u16 s, .pointer (some ⟨bd, 0, none⟩), .pointer (some ⟨br, 0, none⟩), .pointer (some ⟨bm, 0, none⟩)] 129)
  have hk := h.below hb
  have hc := M.pad_any bm (W.alloc (.cells #[.int .i64 op, .int .u16 x, .int .u16 y, .int .u16 z, .int .u16 s, .pointer (some ⟨bd, 0, none⟩), .pointer (some ⟨br, 0, none⟩), .pointer (some ⟨bm, 0, none⟩)] 129)).drew (hk.m.kept fun i hi _ => rfl)
  have hp : ∀ q, Calls Tryz.prog 108 #[.agg #[.int .i64 op, .int .u16 x, .int .u16 y, .int .u16 z, .int .u16 s, .pointer (some ⟨bd, 0, none⟩), .pointer (some ⟨br, 0, none⟩), .pointer (some ⟨bm, 0, none⟩)], .slice (some ⟨W.heap.size + 1, 0, none⟩) 1 1] (((W.alloc (.cells #[.int .i64 op, .int .u16 x, .int .u16 y, .int .u16 z, .int .u16 s, .pointer (some ⟨bd, 0, none⟩), .pointer (some ⟨br, 0, none⟩), .pointer (some ⟨bm, 0, none⟩)] 129)).drewN q).alloc (.cells #[.int .u16 (m.pad)] 31)) fun e W' => e = .returned (.tuple #[]) ∧ S.HasD W' bd (D ++ [m.pad]) ∧ S.At bd W W' := fun q => by
    have b2 : Below W.heap.size W (((W.alloc (.cells #[.int .i64 op, .int .u16 x, .int .u16 y, .int .u16 z, .int .u16 s, .pointer (some ⟨bd, 0, none⟩), .pointer (some ⟨br, 0, none⟩), .pointer (some ⟨bm, 0, none⟩)] 129)).drewN q).alloc (.cells #[.int .u16 (m.pad)] 31)) := (⟨hb.os, hb.tape, hb.output, hb.size, hb.block⟩ : Below W.heap.size W ((W.alloc (.cells #[.int .i64 op, .int .u16 x, .int .u16 y, .int .u16 z, .int .u16 s, .pointer (some ⟨bd, 0, none⟩), .pointer (some ⟨br, 0, none⟩), .pointer (some ⟨bm, 0, none⟩)] 129)).drewN q)).alloc hb.size _
    have hs : S.Sl S.eU 1 (((W.alloc (.cells #[.int .i64 op, .int .u16 x, .int .u16 y, .int .u16 z, .int .u16 s, .pointer (some ⟨bd, 0, none⟩), .pointer (some ⟨br, 0, none⟩), .pointer (some ⟨bm, 0, none⟩)] 129)).drewN q).alloc (.cells #[.int .u16 (m.pad)] 31)) (some ⟨W.heap.size + 1, 0, none⟩) [m.pad] := sl_block S.hU _ _ 31 _ (by
      have := heap_alloc_new ((W.alloc (.cells #[.int .i64 op, .int .u16 x, .int .u16 y, .int .u16 z, .int .u16 s, .pointer (some ⟨bd, 0, none⟩), .pointer (some ⟨br, 0, none⟩), .pointer (some ⟨bm, 0, none⟩)] 129)).drewN q) (.cells #[.int .u16 (m.pad)] 31)
      have e : ((W.alloc (.cells #[.int .i64 op, .int .u16 x, .int .u16 y, .int .u16 z, .int .u16 s, .pointer (some ⟨bd, 0, none⟩), .pointer (some ⟨br, 0, none⟩), .pointer (some ⟨bm, 0, none⟩)] 129)).drewN q).heap.size = W.heap.size + 1 := by show (W.alloc _).heap.size = _; simp
      rw [e] at this; exact this)
    have hp := put_any op x y z s bd br bm D [m.pad] (some ⟨W.heap.size + 1, 0, none⟩) 1 _ (h.d.below b2) hs hl
    simp only [List.length_cons, List.length_nil, Nat.reduceAdd] at hp
    exact hp.mono fun e W' ⟨a, b, c⟩ => ⟨a, b, c.os.trans b2.os, c.tape.trans b2.tape, c.output.trans b2.output, Nat.le_trans b2.size c.size, fun k hk hn => (c.block k (Nat.lt_of_lt_of_le hk b2.size) hn).trans (b2.block k hk)⟩
  have hv : IntKind.u16.wrap m.pad = m.pad := by
    have := hk.m.wf.pad0; have := hk.m.wf.pad1
    simp [IntKind.wrap, IntKind.bits, IntKind.signed]; omega
  have H : Hid _ := S.hid h
  clear h hk hb
  go_enter Tryz.func131, Tryz.ntmps131
  go_wp2_with fail
  go_region_with (first | (go_at_call 132; refine hc.mono ?_; rintro e w1 ⟨rfl, q, rfl⟩) | (go_at_call 108; refine (hp _).mono ?_; rintro e w2 ⟨rfl, h1, h2⟩))
  all_goals go_wp2
  all_goals go_end0
  all_goals exact ⟨rfl, H.out.put h1 h2⟩
theorem do_fromR (op x y z s : Int) (bd br bm : Nat) (F : Nat → Prop) (D : List Int) (R : List (Int × Int)) (m : M.MS) (W : World) (h : PS W bd br bm F D R m) (R0 : List (Int × Int)) (v : Int) (hR : R = R0 ++ [(4, v)]) (hl : D.length + 1 ≤ 256) :
    Calls Tryz.prog 126 #[.agg #[.int .i64 op, .int .u16 x, .int .u16 y, .int .u16 z, .int .u16 s, .pointer (some ⟨bd, 0, none⟩), .pointer (some ⟨br, 0, none⟩), .pointer (some ⟨bm, 0, none⟩)]] W fun e W' => e = .returned (.tuple #[]) ∧ PD W W' bd br bm F (D ++ [s]) (R0) (m) := by
  subst hR
  have hb := bel_alloc W (.cells #[.int .i64 op, .int .u16 x, .int .u16 y, .int .u16 z, .int .u16 s, .pointer (some ⟨bd, 0, none⟩), .pointer (some ⟨br, 0, none⟩), .pointer (some ⟨bm, 0, none⟩)] 129)
  have hk := h.below hb
  have hc := S.rpop_ok br R0 4 v _ hk.r
  have hlt : W.heap.size ≠ br := by have := S.lt_of h.r.1; omega
  have hbx := heap_alloc_new W (.cells #[.int .i64 op, .int .u16 x, .int .u16 y, .int .u16 z, .int .u16 s, .pointer (some ⟨bd, 0, none⟩), .pointer (some ⟨br, 0, none⟩), .pointer (some ⟨bm, 0, none⟩)] 129)
  have hsz : (W.alloc (.cells #[.int .i64 op, .int .u16 x, .int .u16 y, .int .u16 z, .int .u16 s, .pointer (some ⟨bd, 0, none⟩), .pointer (some ⟨br, 0, none⟩), .pointer (some ⟨bm, 0, none⟩)] 129)).heap.size = W.heap.size + 1 := by simp
  have H := S.hid h
  have HK := S.hid hk
  have HB := S.hid hb
  have HX := S.hid hbx
  have HZ := S.hid hsz
  clear h hk hb hbx hsz
  go_enter Tryz.func126, Tryz.ntmps126
  go_wp2_with fail
  refine hc.mono ?_
  rintro e w1 ⟨rfl, h1, h2⟩
  have hPD := HK.out.save h1 h2
  have hbx : w1.heap[W.heap.size]? = _ := (h2.block _ (by rw [HZ.out]; omega) hlt).trans HX.out
  have c0 := S.cell_of w1 W.heap.size 0 _ 129 _ hbx rfl
  have c1 := S.cell_of w1 W.heap.size 1 _ 129 _ hbx rfl
  have c2 := S.cell_of w1 W.heap.size 2 _ 129 _ hbx rfl
  have c3 := S.cell_of w1 W.heap.size 3 _ 129 _ hbx rfl
  have c4 := S.cell_of w1 W.heap.size 4 _ 129 _ hbx rfl
  have c5 := S.cell_of w1 W.heap.size 5 _ 129 _ hbx rfl
  have c6 := S.cell_of w1 W.heap.size 6 _ 129 _ hbx rfl
  have c7 := S.cell_of w1 W.heap.size 7 _ 129 _ hbx rfl
  have b2 := bel_alloc w1 (.cells #[.int .u16 s] 31)
  have hs : S.Sl S.eU 1 (w1.alloc (.cells #[.int .u16 s] 31)) (some ⟨w1.heap.size, 0, none⟩) [s] := sl_block S.hU _ _ 31 _ (heap_alloc_new w1 _)
  have hp := put_any op x y z s bd br bm D [s] (some ⟨w1.heap.size, 0, none⟩) 1 _ (hPD.s.d.below b2) hs hl
  simp only [List.length_cons, List.length_nil, Nat.reduceAdd] at hp
  clear hbx
  go_wp2_with fail
  refine hp.mono ?_
  rintro e w2 ⟨rfl, h3, h4⟩
  go_wp2
  go_end0
  exact ⟨rfl, PD.ahead (S.lt_of H.out.d.1) (S.lt_of H.out.r.1) HB.out (hPD.trans (hPD.s.put h3 (at_alloc _ h4)))⟩
end Go.Proofs.YtgponcjjnjpfkabGreat.P
/-! +!. -/
namespace Go.Proofs.YtgponcjjnjpfkabGreat.P
open Go.RowKit
open Go.Proofs
set_option linter.unusedVariables false
set_option linter.unusedSimpArgs false
set_option maxHeartbeats 2000000
set_option maxRecDepth 100000
theorem do_plus (op x y z s : Int) (bd br bm : Nat) (F : Nat → Prop) (D : List Int) (R : List (Int × Int)) (m : M.MS) (W : World) (h : PS W bd br bm F D R m) (hx : C.C x) (hy : C.C y) (ht : m.tones.length ≤ 999000) :
    Calls Tryz.prog 124 #[.agg #[.int .i64 op, .int .u16 x, .int .u16 y, .int .u16 z, .int .u16 s, .pointer (some ⟨bd, 0, none⟩), .pointer (some ⟨br, 0, none⟩), .pointer (some ⟨bm, 0, none⟩)]] W fun e W' => e = .returned (.tuple #[]) ∧ PD W W' bd br bm F (D) (R) (M.sc m y ((M.cl m y + x) % 65536)) := by
  have h0 := h.cut
  have hb := bel_alloc W (.cells #[.int .i64 op, .int .u16 x, .int .u16 y, .int .u16 z, .int .u16 s, .pointer (some ⟨bd, 0, none⟩), .pointer (some ⟨br, 0, none⟩), .pointer (some ⟨bm, 0, none⟩)] 129)
  have hk := h0.below hb
  have hc := M.cell_any bm y hy.1 hy.2 (W.alloc (.cells #[.int .i64 op, .int .u16 x, .int .u16 y, .int .u16 z, .int .u16 s, .pointer (some ⟨bd, 0, none⟩), .pointer (some ⟨br, 0, none⟩), .pointer (some ⟨bm, 0, none⟩)] 129)).drew (hk.m.kept fun i hi _ => rfl)
  have hv : IntKind.u16.wrap (M.cl m y + x) = (M.cl m y + x) % 65536 := by simp [IntKind.wrap, IntKind.bits, IntKind.signed]
  have hbx := heap_alloc_new W (.cells #[.int .i64 op, .int .u16 x, .int .u16 y, .int .u16 z, .int .u16 s, .pointer (some ⟨bd, 0, none⟩), .pointer (some ⟨br, 0, none⟩), .pointer (some ⟨bm, 0, none⟩)] 129)
  have sA : ∀ W2 : World, W2.heap[W.heap.size]? = some (.cells #[.int .i64 op, .int .u16 x, .int .u16 y, .int .u16 z, .int .u16 s, .pointer (some ⟨bd, 0, none⟩), .pointer (some ⟨br, 0, none⟩), .pointer (some ⟨bm, 0, none⟩)] 129 (0, 0)) → W2.cell? ⟨W.heap.size, 1, none⟩ = some (.int .u16 x) ∧ W2.cell? ⟨W.heap.size, 2, none⟩ = some (.int .u16 y) ∧ W2.cell? ⟨W.heap.size, 7, none⟩ = some (.pointer (some ⟨bm, 0, none⟩)) := fun W2 e => ⟨S.cell_of W2 _ 1 _ 129 _ e rfl, S.cell_of W2 _ 2 _ 129 _ e rfl, S.cell_of W2 _ 7 _ 129 _ e rfl⟩
  have s0 := sA (W.alloc (.cells #[.int .i64 op, .int .u16 x, .int .u16 y, .int .u16 z, .int .u16 s, .pointer (some ⟨bd, 0, none⟩), .pointer (some ⟨br, 0, none⟩), .pointer (some ⟨bm, 0, none⟩)] 129)).drew hbx
  have s1 : ∀ q, _ := fun q => sA ((W.alloc (.cells #[.int .i64 op, .int .u16 x, .int .u16 y, .int .u16 z, .int .u16 s, .pointer (some ⟨bd, 0, none⟩), .pointer (some ⟨br, 0, none⟩), .pointer (some ⟨bm, 0, none⟩)] 129)).drewN q) hbx
  have hp : ∀ q, Calls Tryz.prog 121 #[.pointer (some ⟨bm, 0, none⟩), .int .u16 y, .int .u16 ((M.cl m y + x) % 65536)] ((W.alloc (.cells #[.int .i64 op, .int .u16 x, .int .u16 y, .int .u16 z, .int .u16 s, .pointer (some ⟨bd, 0, none⟩), .pointer (some ⟨br, 0, none⟩), .pointer (some ⟨bm, 0, none⟩)] 129)).drewN q) fun e W' => e = .returned (.tuple #[]) ∧ PD W W' bd br bm F D R (M.sc m y ((M.cl m y + x) % 65536)) ∧ W'.cell? ⟨W.heap.size, 1, none⟩ = some (.int .u16 x) ∧ W'.cell? ⟨W.heap.size, 2, none⟩ = some (.int .u16 y) ∧ W'.cell? ⟨W.heap.size, 7, none⟩ = some (.pointer (some ⟨bm, 0, none⟩)) := fun q => by
    have b2 : Below W.heap.size W ((W.alloc (.cells #[.int .i64 op, .int .u16 x, .int .u16 y, .int .u16 z, .int .u16 s, .pointer (some ⟨bd, 0, none⟩), .pointer (some ⟨br, 0, none⟩), .pointer (some ⟨bm, 0, none⟩)] 129)).drewN q) := ⟨hb.os, hb.tape, hb.output, hb.size, hb.block⟩
    have hk2 := h0.below b2
    exact (M.setCell_any bm y hy.1 hy.2 ((M.cl m y + x) % 65536) (by omega) (by omega) _ hk2.m (by omega)).mono fun e W' ⟨a, b⟩ => ⟨a, PD.wk (PD.ahead (S.lt_of h.d.1) (S.lt_of h.r.1) b2 (hk2.mem b)) (fun i g => g.1) h.fd h.fr (S.lt_of h.d.1) (S.lt_of h.r.1),
      sA W' ((b.2.block W.heap.size (by show W.heap.size < (W.alloc _).heap.size; simp) (fun g => by have := g.2; omega)).trans hbx)⟩
  clear h hk hb h0 sA hbx
  go_enter Tryz.func124, Tryz.ntmps124
  go_wp2_with fail
  go_region_held (fun w' => w'.cell? ⟨W.heap.size, 1, none⟩ = some (.int .u16 x) ∧ w'.cell? ⟨W.heap.size, 2, none⟩ = some (.int .u16 y) ∧ w'.cell? ⟨W.heap.size, 7, none⟩ = some (.pointer (some ⟨bm, 0, none⟩)))
    (first | (with_reducible exact s0) | (with_reducible exact s1 _) | (with_reducible exact s2))
    (first | (go_at_call 61; refine hc.mono ?_; rintro e w1 ⟨rfl, q, rfl⟩) | (go_at_call 121; refine (hp _).mono ?_; rintro e w2 ⟨rfl, h1, s2⟩))
  all_goals go_wp2
  all_goals go_end0
  all_goals exact ⟨rfl, h1⟩
end Go.Proofs.YtgponcjjnjpfkabGreat.P
/-! Do at every plain number. -/
namespace Go.Proofs.YtgponcjjnjpfkabGreat.P
open Go.RowKit
open Go.Proofs
set_option linter.unusedVariables false
set_option linter.unusedSimpArgs false
set_option maxHeartbeats 2000000
set_option maxRecDepth 100000
/-- In, Out; the kind that is looked at, how far below; how many cells are saved. -/
structure RW where
  i : Nat
  o : Nat
  k : Int
  bl : Nat
  s : Nat
def rw_ (op : Int) : RW := match op with
  | 6 => ⟨2, 0, 0, 0, 2⟩
  | 9 => ⟨0, 0, 0, 0, 0⟩
  | 12 => ⟨1, 2, 0, 0, 0⟩
  | 13 => ⟨1, 0, 0, 0, 0⟩
  | 14 => ⟨2, 2, 0, 0, 0⟩
  | 15 => ⟨2, 3, 0, 0, 0⟩
  | 16 => ⟨3, 3, 0, 0, 0⟩
  | 17 => ⟨2, 1, 0, 0, 0⟩
  | 18 => ⟨2, 3, 0, 0, 0⟩
  | 19 => ⟨2, 4, 0, 0, 0⟩
  | 20 => ⟨2, 0, 0, 0, 0⟩
  | 50 => ⟨1, 1, 0, 0, 0⟩
  | 51 => ⟨2, 0, 0, 0, 0⟩
  | 52 => ⟨1, 1, 0, 0, 0⟩
  | 53 => ⟨2, 0, 0, 0, 0⟩
  | 54 => ⟨2, 0, 0, 0, 0⟩
  | 55 => ⟨1, 0, 0, 0, 1⟩
  | 56 => ⟨0, 1, 4, 0, 0⟩
  | 57 => ⟨0, 1, 4, 0, 0⟩
  | 58 => ⟨0, 1, 3, 0, 0⟩
  | 59 => ⟨0, 1, 3, 2, 0⟩
  | 60 => ⟨3, 0, 0, 0, 0⟩
  | 61 => ⟨0, 1, 0, 0, 0⟩
  | 62 => ⟨2, 0, 0, 0, 0⟩
  | 63 => ⟨1, 0, 0, 0, 0⟩
  | op => if C.isUn op then ⟨1, 1, 0, 0, 0⟩ else ⟨2, 1, 0, 0, 0⟩
def putN (op x y z s : Int) (m : M.MS) : List Int := match op with
  | 12 => [x, x]
  | 14 => [y, x]
  | 15 => [x, y, x]
  | 16 => [y, z, x]
  | 17 => [y]
  | 18 => [y, x, y]
  | 19 => [x, y, x, y]
  | 50 => [M.cl m x]
  | 52 => [M.ld m x]
  | 56 => [s]
  | 57 => [s]
  | 58 => [s]
  | 59 => [s]
  | 61 => [m.pad]
  | op => if C.isUn op then [C.un op x] else if C.isBi op then [C.bi op x y] else []
def retN (op x y : Int) (R : List (Int × Int)) : List (Int × Int) := match op with
  | 6 => R ++ [(2, x), (3, y)]
  | 55 => R ++ [(4, x)]
  | 56 => R.take (R.length - 1)
  | _ => R
def memN (op x y z : Int) (m : M.MS) : M.MS := match op with
  | 51 => M.sc m y x
  | 53 => M.st m y (M.b8 x)
  | 54 => M.sc m y ((M.cl m y + x) % 65536)
  | 60 => M.plt m x y z
  | 62 => M.st (M.sc m 65284 x) 65286 (M.b8 y)
  | 63 => M.st m 65280 (M.b8 x)
  | _ => m
def plain (op : Int) : Bool := op == 6 || op == 9 || (decide (12 ≤ op) && decide (op ≤ 63))
def fl (op : Int) (D : List Int) (R : List (Int × Int)) : Int := flt (rw_ op).i (rw_ op).o (rw_ op).k (rw_ op).bl (rw_ op).s D R
def nD (op : Int) (D : List Int) (R : List (Int × Int)) (m : M.MS) : List Int := rest D (rw_ op).i ++ putN op (xAt D (rw_ op).i 0) (xAt D (rw_ op).i 1) (xAt D (rw_ op).i 2) (lk (rw_ op).k (rw_ op).bl R).1 m
def nR (op : Int) (D : List Int) (R : List (Int × Int)) : List (Int × Int) := retN op (xAt D (rw_ op).i 0) (xAt D (rw_ op).i 1) R
def nM (op : Int) (D : List Int) (m : M.MS) : M.MS := memN op (xAt D (rw_ op).i 0) (xAt D (rw_ op).i 1) (xAt D (rw_ op).i 2) m
theorem flt0 {i o : Nat} {k : Int} {bl s : Nat} {D : List Int} {R : List (Int × Int)} (h : flt i o k bl s D R = 0) : i ≤ D.length ∧ (rest D i).length + o ≤ 256 ∧ (lk k bl R).2 = 0 ∧ R.length + s ≤ 128 := by
  unfold flt at h
  by_cases a0 : S.need D.length i o = 0
  · rw [if_neg (by simpa using a0)] at h
    by_cases a1 : (lk k bl R).2 = 0
    · rw [if_neg (by simpa using a1)] at h
      by_cases a2 : 128 < R.length + s
      · rw [if_pos a2] at h; cases h
      · unfold S.need at a0
        split at a0
        · cases a0
        split at a0
        · cases a0
        rw [rest_len]
        exact ⟨by omega, by omega, a1, by omega⟩
    · rw [if_pos a1] at h; exact absurd h a1
  · rw [if_pos a0] at h; exact absurd h a0
theorem C_xAt (D : List Int) (h : ∀ x ∈ D, C.C x) (i j : Nat) : C.C (xAt D i j) := by
  unfold xAt
  cases e : (tops D i)[j]? with
  | none => exact ⟨by simp, by simp⟩
  | some a => exact h a (List.mem_of_mem_drop (List.mem_of_getElem? e))
theorem lk_saved {R : List (Int × Int)} (h : (lk 4 0 R).2 = 0) : R = R.take (R.length - 1) ++ [(4, (lk 4 0 R).1)] := by
  unfold lk at h ⊢
  simp only [Nat.sub_zero] at h ⊢
  rw [if_neg (by decide)] at h ⊢
  by_cases a : R.length ≤ 0
  · rw [if_pos a] at h; cases h
  rw [if_neg a] at h ⊢
  by_cases b : ((R[R.length - 1]?).getD (0, 0)).1 = 4
  · rw [if_pos b]
    have hj : R.length - 1 < R.length := by omega
    have e : R[R.length - 1]? = some R[R.length - 1] := List.getElem?_eq_getElem hj
    rw [e] at b ⊢
    simp only [Option.getD_some] at b ⊢
    have e2 : R.drop (R.length - 1) = [R[R.length - 1]] := by rw [List.drop_eq_getElem_cons hj, List.drop_of_length_le (by omega)]
    have e3 : R[R.length - 1] = (4, (R[R.length - 1]).2) := Prod.ext b rfl
    rw [← e3, ← e2, List.take_append_drop]
  · rw [if_neg b] at h; cases h
theorem at_6 (bd br bm : Nat) (F : Nat → Prop) (D : List Int) (R : List (Int × Int)) (m : M.MS) (hD : ∀ x ∈ D, C.C x) (ht : m.tones.length ≤ 999000) (W : World) (h : PS W bd br bm F D R m) : Calls Tryz.prog 21 #[.int .i64 6, .pointer (some ⟨bd, 0, none⟩), .pointer (some ⟨br, 0, none⟩), .pointer (some ⟨bm, 0, none⟩)] W fun e W' => e = .returned (.int .i64 (fl 6 D R)) ∧ (fl 6 D R ≠ 0 → Below W.heap.size W W') ∧ (fl 6 D R = 0 → PD W W' bd br bm F (nD 6 D R m) (nR 6 D R) (nM 6 D m)) :=
  do_row 6 ⟨#[]⟩ 2 0 3 false 0 0 2 104 (by decide) (by decide) (fun w => ent_6 w) Tryz.call104 bd br bm F D R m W h ([]) (nR 6 D R) (nM 6 D m) (fun hf G w hw => by
    rw [List.append_nil]
    exact do_do 6 _ _ _ _ bd br bm G _ R m w hw (flt0 hf).2.2.2)
theorem at_9 (bd br bm : Nat) (F : Nat → Prop) (D : List Int) (R : List (Int × Int)) (m : M.MS) (hD : ∀ x ∈ D, C.C x) (ht : m.tones.length ≤ 999000) (W : World) (h : PS W bd br bm F D R m) : Calls Tryz.prog 21 #[.int .i64 9, .pointer (some ⟨bd, 0, none⟩), .pointer (some ⟨br, 0, none⟩), .pointer (some ⟨bm, 0, none⟩)] W fun e W' => e = .returned (.int .i64 (fl 9 D R)) ∧ (fl 9 D R ≠ 0 → Below W.heap.size W W') ∧ (fl 9 D R = 0 → PD W W' bd br bm F (nD 9 D R m) (nR 9 D R) (nM 9 D m)) :=
  do_row 9 ⟨#[110, 111, 112]⟩ 0 0 1 false 0 0 0 106 (by decide) (by decide) (fun w => ent_9 w) Tryz.call106 bd br bm F D R m W h ([]) (nR 9 D R) (nM 9 D m) (fun hf G w hw => by
    rw [List.append_nil]
    exact do_nop 9 _ _ _ _ bd br bm G _ R m w hw)
theorem at_12 (bd br bm : Nat) (F : Nat → Prop) (D : List Int) (R : List (Int × Int)) (m : M.MS) (hD : ∀ x ∈ D, C.C x) (ht : m.tones.length ≤ 999000) (W : World) (h : PS W bd br bm F D R m) : Calls Tryz.prog 21 #[.int .i64 12, .pointer (some ⟨bd, 0, none⟩), .pointer (some ⟨br, 0, none⟩), .pointer (some ⟨bm, 0, none⟩)] W fun e W' => e = .returned (.int .i64 (fl 12 D R)) ∧ (fl 12 D R ≠ 0 → Below W.heap.size W W') ∧ (fl 12 D R = 0 → PD W W' bd br bm F (nD 12 D R m) (nR 12 D R) (nM 12 D m)) :=
  do_row 12 ⟨#[100, 117, 112]⟩ 1 2 1 false 0 0 0 107 (by decide) (by decide) (fun w => ent_12 w) Tryz.call107 bd br bm F D R m W h ([(xAt D 1 0), (xAt D 1 0)]) (nR 12 D R) (nM 12 D m) (fun hf G w hw => do_dup 12 _ _ _ _ bd br bm G _ R m w hw (flt0 hf).2.1)
theorem at_13 (bd br bm : Nat) (F : Nat → Prop) (D : List Int) (R : List (Int × Int)) (m : M.MS) (hD : ∀ x ∈ D, C.C x) (ht : m.tones.length ≤ 999000) (W : World) (h : PS W bd br bm F D R m) : Calls Tryz.prog 21 #[.int .i64 13, .pointer (some ⟨bd, 0, none⟩), .pointer (some ⟨br, 0, none⟩), .pointer (some ⟨bm, 0, none⟩)] W fun e W' => e = .returned (.int .i64 (fl 13 D R)) ∧ (fl 13 D R ≠ 0 → Below W.heap.size W W') ∧ (fl 13 D R = 0 → PD W W' bd br bm F (nD 13 D R m) (nR 13 D R) (nM 13 D m)) :=
  do_row 13 ⟨#[100, 114, 111, 112]⟩ 1 0 1 false 0 0 0 109 (by decide) (by decide) (fun w => ent_13 w) Tryz.call109 bd br bm F D R m W h ([]) (nR 13 D R) (nM 13 D m) (fun hf G w hw => by
    rw [List.append_nil]
    exact do_drop 13 _ _ _ _ bd br bm G _ R m w hw)
theorem at_14 (bd br bm : Nat) (F : Nat → Prop) (D : List Int) (R : List (Int × Int)) (m : M.MS) (hD : ∀ x ∈ D, C.C x) (ht : m.tones.length ≤ 999000) (W : World) (h : PS W bd br bm F D R m) : Calls Tryz.prog 21 #[.int .i64 14, .pointer (some ⟨bd, 0, none⟩), .pointer (some ⟨br, 0, none⟩), .pointer (some ⟨bm, 0, none⟩)] W fun e W' => e = .returned (.int .i64 (fl 14 D R)) ∧ (fl 14 D R ≠ 0 → Below W.heap.size W W') ∧ (fl 14 D R = 0 → PD W W' bd br bm F (nD 14 D R m) (nR 14 D R) (nM 14 D m)) :=
  do_row 14 ⟨#[115, 119, 97, 112]⟩ 2 2 1 false 0 0 0 110 (by decide) (by decide) (fun w => ent_14 w) Tryz.call110 bd br bm F D R m W h ([(xAt D 2 1), (xAt D 2 0)]) (nR 14 D R) (nM 14 D m) (fun hf G w hw => do_swap 14 _ _ _ _ bd br bm G _ R m w hw (flt0 hf).2.1)
theorem at_15 (bd br bm : Nat) (F : Nat → Prop) (D : List Int) (R : List (Int × Int)) (m : M.MS) (hD : ∀ x ∈ D, C.C x) (ht : m.tones.length ≤ 999000) (W : World) (h : PS W bd br bm F D R m) : Calls Tryz.prog 21 #[.int .i64 15, .pointer (some ⟨bd, 0, none⟩), .pointer (some ⟨br, 0, none⟩), .pointer (some ⟨bm, 0, none⟩)] W fun e W' => e = .returned (.int .i64 (fl 15 D R)) ∧ (fl 15 D R ≠ 0 → Below W.heap.size W W') ∧ (fl 15 D R = 0 → PD W W' bd br bm F (nD 15 D R m) (nR 15 D R) (nM 15 D m)) :=
  do_row 15 ⟨#[111, 118, 101, 114]⟩ 2 3 1 false 0 0 0 111 (by decide) (by decide) (fun w => ent_15 w) Tryz.call111 bd br bm F D R m W h ([(xAt D 2 0), (xAt D 2 1), (xAt D 2 0)]) (nR 15 D R) (nM 15 D m) (fun hf G w hw => do_over 15 _ _ _ _ bd br bm G _ R m w hw (flt0 hf).2.1)
theorem at_16 (bd br bm : Nat) (F : Nat → Prop) (D : List Int) (R : List (Int × Int)) (m : M.MS) (hD : ∀ x ∈ D, C.C x) (ht : m.tones.length ≤ 999000) (W : World) (h : PS W bd br bm F D R m) : Calls Tryz.prog 21 #[.int .i64 16, .pointer (some ⟨bd, 0, none⟩), .pointer (some ⟨br, 0, none⟩), .pointer (some ⟨bm, 0, none⟩)] W fun e W' => e = .returned (.int .i64 (fl 16 D R)) ∧ (fl 16 D R ≠ 0 → Below W.heap.size W W') ∧ (fl 16 D R = 0 → PD W W' bd br bm F (nD 16 D R m) (nR 16 D R) (nM 16 D m)) :=
  do_row 16 ⟨#[114, 111, 116]⟩ 3 3 1 false 0 0 0 112 (by decide) (by decide) (fun w => ent_16 w) Tryz.call112 bd br bm F D R m W h ([(xAt D 3 1), (xAt D 3 2), (xAt D 3 0)]) (nR 16 D R) (nM 16 D m) (fun hf G w hw => do_rot 16 _ _ _ _ bd br bm G _ R m w hw (flt0 hf).2.1)
theorem at_17 (bd br bm : Nat) (F : Nat → Prop) (D : List Int) (R : List (Int × Int)) (m : M.MS) (hD : ∀ x ∈ D, C.C x) (ht : m.tones.length ≤ 999000) (W : World) (h : PS W bd br bm F D R m) : Calls Tryz.prog 21 #[.int .i64 17, .pointer (some ⟨bd, 0, none⟩), .pointer (some ⟨br, 0, none⟩), .pointer (some ⟨bm, 0, none⟩)] W fun e W' => e = .returned (.int .i64 (fl 17 D R)) ∧ (fl 17 D R ≠ 0 → Below W.heap.size W W') ∧ (fl 17 D R = 0 → PD W W' bd br bm F (nD 17 D R m) (nR 17 D R) (nM 17 D m)) :=
  do_row 17 ⟨#[110, 105, 112]⟩ 2 1 1 false 0 0 0 113 (by decide) (by decide) (fun w => ent_17 w) Tryz.call113 bd br bm F D R m W h ([(xAt D 2 1)]) (nR 17 D R) (nM 17 D m) (fun hf G w hw => do_nip 17 _ _ _ _ bd br bm G _ R m w hw (flt0 hf).2.1)
theorem at_18 (bd br bm : Nat) (F : Nat → Prop) (D : List Int) (R : List (Int × Int)) (m : M.MS) (hD : ∀ x ∈ D, C.C x) (ht : m.tones.length ≤ 999000) (W : World) (h : PS W bd br bm F D R m) : Calls Tryz.prog 21 #[.int .i64 18, .pointer (some ⟨bd, 0, none⟩), .pointer (some ⟨br, 0, none⟩), .pointer (some ⟨bm, 0, none⟩)] W fun e W' => e = .returned (.int .i64 (fl 18 D R)) ∧ (fl 18 D R ≠ 0 → Below W.heap.size W W') ∧ (fl 18 D R = 0 → PD W W' bd br bm F (nD 18 D R m) (nR 18 D R) (nM 18 D m)) :=
  do_row 18 ⟨#[116, 117, 99, 107]⟩ 2 3 1 false 0 0 0 114 (by decide) (by decide) (fun w => ent_18 w) Tryz.call114 bd br bm F D R m W h ([(xAt D 2 1), (xAt D 2 0), (xAt D 2 1)]) (nR 18 D R) (nM 18 D m) (fun hf G w hw => do_tuck 18 _ _ _ _ bd br bm G _ R m w hw (flt0 hf).2.1)
theorem at_19 (bd br bm : Nat) (F : Nat → Prop) (D : List Int) (R : List (Int × Int)) (m : M.MS) (hD : ∀ x ∈ D, C.C x) (ht : m.tones.length ≤ 999000) (W : World) (h : PS W bd br bm F D R m) : Calls Tryz.prog 21 #[.int .i64 19, .pointer (some ⟨bd, 0, none⟩), .pointer (some ⟨br, 0, none⟩), .pointer (some ⟨bm, 0, none⟩)] W fun e W' => e = .returned (.int .i64 (fl 19 D R)) ∧ (fl 19 D R ≠ 0 → Below W.heap.size W W') ∧ (fl 19 D R = 0 → PD W W' bd br bm F (nD 19 D R m) (nR 19 D R) (nM 19 D m)) :=
  do_row 19 ⟨#[50, 100, 117, 112]⟩ 2 4 2 false 0 0 0 115 (by decide) (by decide) (fun w => ent_19 w) Tryz.call115 bd br bm F D R m W h ([(xAt D 2 0), (xAt D 2 1), (xAt D 2 0), (xAt D 2 1)]) (nR 19 D R) (nM 19 D m) (fun hf G w hw => do_dup2 19 _ _ _ _ bd br bm G _ R m w hw (flt0 hf).2.1)
theorem at_20 (bd br bm : Nat) (F : Nat → Prop) (D : List Int) (R : List (Int × Int)) (m : M.MS) (hD : ∀ x ∈ D, C.C x) (ht : m.tones.length ≤ 999000) (W : World) (h : PS W bd br bm F D R m) : Calls Tryz.prog 21 #[.int .i64 20, .pointer (some ⟨bd, 0, none⟩), .pointer (some ⟨br, 0, none⟩), .pointer (some ⟨bm, 0, none⟩)] W fun e W' => e = .returned (.int .i64 (fl 20 D R)) ∧ (fl 20 D R ≠ 0 → Below W.heap.size W W') ∧ (fl 20 D R = 0 → PD W W' bd br bm F (nD 20 D R m) (nR 20 D R) (nM 20 D m)) :=
  do_row 20 ⟨#[50, 100, 114, 111, 112]⟩ 2 0 1 false 0 0 0 116 (by decide) (by decide) (fun w => ent_20 w) Tryz.call116 bd br bm F D R m W h ([]) (nR 20 D R) (nM 20 D m) (fun hf G w hw => by
    rw [List.append_nil]
    exact do_drop2 20 _ _ _ _ bd br bm G _ R m w hw)
theorem at_21 (bd br bm : Nat) (F : Nat → Prop) (D : List Int) (R : List (Int × Int)) (m : M.MS) (hD : ∀ x ∈ D, C.C x) (ht : m.tones.length ≤ 999000) (W : World) (h : PS W bd br bm F D R m) : Calls Tryz.prog 21 #[.int .i64 21, .pointer (some ⟨bd, 0, none⟩), .pointer (some ⟨br, 0, none⟩), .pointer (some ⟨bm, 0, none⟩)] W fun e W' => e = .returned (.int .i64 (fl 21 D R)) ∧ (fl 21 D R ≠ 0 → Below W.heap.size W W') ∧ (fl 21 D R = 0 → PD W W' bd br bm F (nD 21 D R m) (nR 21 D R) (nM 21 D m)) :=
  do_row 21 ⟨#[43]⟩ 2 1 1 false 0 0 0 142 (by decide) (by decide) (fun w => ent_21 w) Tryz.call142 bd br bm F D R m W h ([C.bi 21 (xAt D 2 0) (xAt D 2 1)]) (nR 21 D R) (nM 21 D m) (fun hf G w hw => do_bin 21 _ _ _ _ bd br bm G _ R m w hw (C_xAt D hD 2 0) (C_xAt D hD 2 1) (flt0 hf).2.1)
theorem at_22 (bd br bm : Nat) (F : Nat → Prop) (D : List Int) (R : List (Int × Int)) (m : M.MS) (hD : ∀ x ∈ D, C.C x) (ht : m.tones.length ≤ 999000) (W : World) (h : PS W bd br bm F D R m) : Calls Tryz.prog 21 #[.int .i64 22, .pointer (some ⟨bd, 0, none⟩), .pointer (some ⟨br, 0, none⟩), .pointer (some ⟨bm, 0, none⟩)] W fun e W' => e = .returned (.int .i64 (fl 22 D R)) ∧ (fl 22 D R ≠ 0 → Below W.heap.size W W') ∧ (fl 22 D R = 0 → PD W W' bd br bm F (nD 22 D R m) (nR 22 D R) (nM 22 D m)) :=
  do_row 22 ⟨#[45]⟩ 2 1 1 false 0 0 0 142 (by decide) (by decide) (fun w => ent_22 w) Tryz.call142 bd br bm F D R m W h ([C.bi 22 (xAt D 2 0) (xAt D 2 1)]) (nR 22 D R) (nM 22 D m) (fun hf G w hw => do_bin 22 _ _ _ _ bd br bm G _ R m w hw (C_xAt D hD 2 0) (C_xAt D hD 2 1) (flt0 hf).2.1)
theorem at_23 (bd br bm : Nat) (F : Nat → Prop) (D : List Int) (R : List (Int × Int)) (m : M.MS) (hD : ∀ x ∈ D, C.C x) (ht : m.tones.length ≤ 999000) (W : World) (h : PS W bd br bm F D R m) : Calls Tryz.prog 21 #[.int .i64 23, .pointer (some ⟨bd, 0, none⟩), .pointer (some ⟨br, 0, none⟩), .pointer (some ⟨bm, 0, none⟩)] W fun e W' => e = .returned (.int .i64 (fl 23 D R)) ∧ (fl 23 D R ≠ 0 → Below W.heap.size W W') ∧ (fl 23 D R = 0 → PD W W' bd br bm F (nD 23 D R m) (nR 23 D R) (nM 23 D m)) :=
  do_row 23 ⟨#[42]⟩ 2 1 3 false 0 0 0 142 (by decide) (by decide) (fun w => ent_23 w) Tryz.call142 bd br bm F D R m W h ([C.bi 23 (xAt D 2 0) (xAt D 2 1)]) (nR 23 D R) (nM 23 D m) (fun hf G w hw => do_bin 23 _ _ _ _ bd br bm G _ R m w hw (C_xAt D hD 2 0) (C_xAt D hD 2 1) (flt0 hf).2.1)
theorem at_24 (bd br bm : Nat) (F : Nat → Prop) (D : List Int) (R : List (Int × Int)) (m : M.MS) (hD : ∀ x ∈ D, C.C x) (ht : m.tones.length ≤ 999000) (W : World) (h : PS W bd br bm F D R m) : Calls Tryz.prog 21 #[.int .i64 24, .pointer (some ⟨bd, 0, none⟩), .pointer (some ⟨br, 0, none⟩), .pointer (some ⟨bm, 0, none⟩)] W fun e W' => e = .returned (.int .i64 (fl 24 D R)) ∧ (fl 24 D R ≠ 0 → Below W.heap.size W W') ∧ (fl 24 D R = 0 → PD W W' bd br bm F (nD 24 D R m) (nR 24 D R) (nM 24 D m)) :=
  do_row 24 ⟨#[47]⟩ 2 1 4 false 0 0 0 142 (by decide) (by decide) (fun w => ent_24 w) Tryz.call142 bd br bm F D R m W h ([C.bi 24 (xAt D 2 0) (xAt D 2 1)]) (nR 24 D R) (nM 24 D m) (fun hf G w hw => do_bin 24 _ _ _ _ bd br bm G _ R m w hw (C_xAt D hD 2 0) (C_xAt D hD 2 1) (flt0 hf).2.1)
theorem at_25 (bd br bm : Nat) (F : Nat → Prop) (D : List Int) (R : List (Int × Int)) (m : M.MS) (hD : ∀ x ∈ D, C.C x) (ht : m.tones.length ≤ 999000) (W : World) (h : PS W bd br bm F D R m) : Calls Tryz.prog 21 #[.int .i64 25, .pointer (some ⟨bd, 0, none⟩), .pointer (some ⟨br, 0, none⟩), .pointer (some ⟨bm, 0, none⟩)] W fun e W' => e = .returned (.int .i64 (fl 25 D R)) ∧ (fl 25 D R ≠ 0 → Below W.heap.size W W') ∧ (fl 25 D R = 0 → PD W W' bd br bm F (nD 25 D R m) (nR 25 D R) (nM 25 D m)) :=
  do_row 25 ⟨#[109, 111, 100]⟩ 2 1 4 false 0 0 0 142 (by decide) (by decide) (fun w => ent_25 w) Tryz.call142 bd br bm F D R m W h ([C.bi 25 (xAt D 2 0) (xAt D 2 1)]) (nR 25 D R) (nM 25 D m) (fun hf G w hw => do_bin 25 _ _ _ _ bd br bm G _ R m w hw (C_xAt D hD 2 0) (C_xAt D hD 2 1) (flt0 hf).2.1)
theorem at_26 (bd br bm : Nat) (F : Nat → Prop) (D : List Int) (R : List (Int × Int)) (m : M.MS) (hD : ∀ x ∈ D, C.C x) (ht : m.tones.length ≤ 999000) (W : World) (h : PS W bd br bm F D R m) : Calls Tryz.prog 21 #[.int .i64 26, .pointer (some ⟨bd, 0, none⟩), .pointer (some ⟨br, 0, none⟩), .pointer (some ⟨bm, 0, none⟩)] W fun e W' => e = .returned (.int .i64 (fl 26 D R)) ∧ (fl 26 D R ≠ 0 → Below W.heap.size W W') ∧ (fl 26 D R = 0 → PD W W' bd br bm F (nD 26 D R m) (nR 26 D R) (nM 26 D m)) :=
  do_row 26 ⟨#[117, 47]⟩ 2 1 4 false 0 0 0 142 (by decide) (by decide) (fun w => ent_26 w) Tryz.call142 bd br bm F D R m W h ([C.bi 26 (xAt D 2 0) (xAt D 2 1)]) (nR 26 D R) (nM 26 D m) (fun hf G w hw => do_bin 26 _ _ _ _ bd br bm G _ R m w hw (C_xAt D hD 2 0) (C_xAt D hD 2 1) (flt0 hf).2.1)
theorem at_27 (bd br bm : Nat) (F : Nat → Prop) (D : List Int) (R : List (Int × Int)) (m : M.MS) (hD : ∀ x ∈ D, C.C x) (ht : m.tones.length ≤ 999000) (W : World) (h : PS W bd br bm F D R m) : Calls Tryz.prog 21 #[.int .i64 27, .pointer (some ⟨bd, 0, none⟩), .pointer (some ⟨br, 0, none⟩), .pointer (some ⟨bm, 0, none⟩)] W fun e W' => e = .returned (.int .i64 (fl 27 D R)) ∧ (fl 27 D R ≠ 0 → Below W.heap.size W W') ∧ (fl 27 D R = 0 → PD W W' bd br bm F (nD 27 D R m) (nR 27 D R) (nM 27 D m)) :=
  do_row 27 ⟨#[117, 109, 111, 100]⟩ 2 1 4 false 0 0 0 142 (by decide) (by decide) (fun w => ent_27 w) Tryz.call142 bd br bm F D R m W h ([C.bi 27 (xAt D 2 0) (xAt D 2 1)]) (nR 27 D R) (nM 27 D m) (fun hf G w hw => do_bin 27 _ _ _ _ bd br bm G _ R m w hw (C_xAt D hD 2 0) (C_xAt D hD 2 1) (flt0 hf).2.1)
theorem at_28 (bd br bm : Nat) (F : Nat → Prop) (D : List Int) (R : List (Int × Int)) (m : M.MS) (hD : ∀ x ∈ D, C.C x) (ht : m.tones.length ≤ 999000) (W : World) (h : PS W bd br bm F D R m) : Calls Tryz.prog 21 #[.int .i64 28, .pointer (some ⟨bd, 0, none⟩), .pointer (some ⟨br, 0, none⟩), .pointer (some ⟨bm, 0, none⟩)] W fun e W' => e = .returned (.int .i64 (fl 28 D R)) ∧ (fl 28 D R ≠ 0 → Below W.heap.size W W') ∧ (fl 28 D R = 0 → PD W W' bd br bm F (nD 28 D R m) (nR 28 D R) (nM 28 D m)) :=
  do_row 28 ⟨#[110, 101, 103, 97, 116, 101]⟩ 1 1 1 false 0 0 0 144 (by decide) (by decide) (fun w => ent_28 w) Tryz.call144 bd br bm F D R m W h ([C.un 28 (xAt D 1 0)]) (nR 28 D R) (nM 28 D m) (fun hf G w hw => do_un 28 _ _ _ _ bd br bm G _ R m w hw (C_xAt D hD 1 0) (flt0 hf).2.1)
theorem at_29 (bd br bm : Nat) (F : Nat → Prop) (D : List Int) (R : List (Int × Int)) (m : M.MS) (hD : ∀ x ∈ D, C.C x) (ht : m.tones.length ≤ 999000) (W : World) (h : PS W bd br bm F D R m) : Calls Tryz.prog 21 #[.int .i64 29, .pointer (some ⟨bd, 0, none⟩), .pointer (some ⟨br, 0, none⟩), .pointer (some ⟨bm, 0, none⟩)] W fun e W' => e = .returned (.int .i64 (fl 29 D R)) ∧ (fl 29 D R ≠ 0 → Below W.heap.size W W') ∧ (fl 29 D R = 0 → PD W W' bd br bm F (nD 29 D R m) (nR 29 D R) (nM 29 D m)) :=
  do_row 29 ⟨#[97, 98, 115]⟩ 1 1 1 false 0 0 0 144 (by decide) (by decide) (fun w => ent_29 w) Tryz.call144 bd br bm F D R m W h ([C.un 29 (xAt D 1 0)]) (nR 29 D R) (nM 29 D m) (fun hf G w hw => do_un 29 _ _ _ _ bd br bm G _ R m w hw (C_xAt D hD 1 0) (flt0 hf).2.1)
theorem at_30 (bd br bm : Nat) (F : Nat → Prop) (D : List Int) (R : List (Int × Int)) (m : M.MS) (hD : ∀ x ∈ D, C.C x) (ht : m.tones.length ≤ 999000) (W : World) (h : PS W bd br bm F D R m) : Calls Tryz.prog 21 #[.int .i64 30, .pointer (some ⟨bd, 0, none⟩), .pointer (some ⟨br, 0, none⟩), .pointer (some ⟨bm, 0, none⟩)] W fun e W' => e = .returned (.int .i64 (fl 30 D R)) ∧ (fl 30 D R ≠ 0 → Below W.heap.size W W') ∧ (fl 30 D R = 0 → PD W W' bd br bm F (nD 30 D R m) (nR 30 D R) (nM 30 D m)) :=
  do_row 30 ⟨#[109, 105, 110]⟩ 2 1 1 false 0 0 0 142 (by decide) (by decide) (fun w => ent_30 w) Tryz.call142 bd br bm F D R m W h ([C.bi 30 (xAt D 2 0) (xAt D 2 1)]) (nR 30 D R) (nM 30 D m) (fun hf G w hw => do_bin 30 _ _ _ _ bd br bm G _ R m w hw (C_xAt D hD 2 0) (C_xAt D hD 2 1) (flt0 hf).2.1)
theorem at_31 (bd br bm : Nat) (F : Nat → Prop) (D : List Int) (R : List (Int × Int)) (m : M.MS) (hD : ∀ x ∈ D, C.C x) (ht : m.tones.length ≤ 999000) (W : World) (h : PS W bd br bm F D R m) : Calls Tryz.prog 21 #[.int .i64 31, .pointer (some ⟨bd, 0, none⟩), .pointer (some ⟨br, 0, none⟩), .pointer (some ⟨bm, 0, none⟩)] W fun e W' => e = .returned (.int .i64 (fl 31 D R)) ∧ (fl 31 D R ≠ 0 → Below W.heap.size W W') ∧ (fl 31 D R = 0 → PD W W' bd br bm F (nD 31 D R m) (nR 31 D R) (nM 31 D m)) :=
  do_row 31 ⟨#[109, 97, 120]⟩ 2 1 1 false 0 0 0 142 (by decide) (by decide) (fun w => ent_31 w) Tryz.call142 bd br bm F D R m W h ([C.bi 31 (xAt D 2 0) (xAt D 2 1)]) (nR 31 D R) (nM 31 D m) (fun hf G w hw => do_bin 31 _ _ _ _ bd br bm G _ R m w hw (C_xAt D hD 2 0) (C_xAt D hD 2 1) (flt0 hf).2.1)
theorem at_32 (bd br bm : Nat) (F : Nat → Prop) (D : List Int) (R : List (Int × Int)) (m : M.MS) (hD : ∀ x ∈ D, C.C x) (ht : m.tones.length ≤ 999000) (W : World) (h : PS W bd br bm F D R m) : Calls Tryz.prog 21 #[.int .i64 32, .pointer (some ⟨bd, 0, none⟩), .pointer (some ⟨br, 0, none⟩), .pointer (some ⟨bm, 0, none⟩)] W fun e W' => e = .returned (.int .i64 (fl 32 D R)) ∧ (fl 32 D R ≠ 0 → Below W.heap.size W W') ∧ (fl 32 D R = 0 → PD W W' bd br bm F (nD 32 D R m) (nR 32 D R) (nM 32 D m)) :=
  do_row 32 ⟨#[49, 43]⟩ 1 1 1 false 0 0 0 144 (by decide) (by decide) (fun w => ent_32 w) Tryz.call144 bd br bm F D R m W h ([C.un 32 (xAt D 1 0)]) (nR 32 D R) (nM 32 D m) (fun hf G w hw => do_un 32 _ _ _ _ bd br bm G _ R m w hw (C_xAt D hD 1 0) (flt0 hf).2.1)
theorem at_33 (bd br bm : Nat) (F : Nat → Prop) (D : List Int) (R : List (Int × Int)) (m : M.MS) (hD : ∀ x ∈ D, C.C x) (ht : m.tones.length ≤ 999000) (W : World) (h : PS W bd br bm F D R m) : Calls Tryz.prog 21 #[.int .i64 33, .pointer (some ⟨bd, 0, none⟩), .pointer (some ⟨br, 0, none⟩), .pointer (some ⟨bm, 0, none⟩)] W fun e W' => e = .returned (.int .i64 (fl 33 D R)) ∧ (fl 33 D R ≠ 0 → Below W.heap.size W W') ∧ (fl 33 D R = 0 → PD W W' bd br bm F (nD 33 D R m) (nR 33 D R) (nM 33 D m)) :=
  do_row 33 ⟨#[49, 45]⟩ 1 1 1 false 0 0 0 144 (by decide) (by decide) (fun w => ent_33 w) Tryz.call144 bd br bm F D R m W h ([C.un 33 (xAt D 1 0)]) (nR 33 D R) (nM 33 D m) (fun hf G w hw => do_un 33 _ _ _ _ bd br bm G _ R m w hw (C_xAt D hD 1 0) (flt0 hf).2.1)
theorem at_34 (bd br bm : Nat) (F : Nat → Prop) (D : List Int) (R : List (Int × Int)) (m : M.MS) (hD : ∀ x ∈ D, C.C x) (ht : m.tones.length ≤ 999000) (W : World) (h : PS W bd br bm F D R m) : Calls Tryz.prog 21 #[.int .i64 34, .pointer (some ⟨bd, 0, none⟩), .pointer (some ⟨br, 0, none⟩), .pointer (some ⟨bm, 0, none⟩)] W fun e W' => e = .returned (.int .i64 (fl 34 D R)) ∧ (fl 34 D R ≠ 0 → Below W.heap.size W W') ∧ (fl 34 D R = 0 → PD W W' bd br bm F (nD 34 D R m) (nR 34 D R) (nM 34 D m)) :=
  do_row 34 ⟨#[50, 42]⟩ 1 1 1 false 0 0 0 144 (by decide) (by decide) (fun w => ent_34 w) Tryz.call144 bd br bm F D R m W h ([C.un 34 (xAt D 1 0)]) (nR 34 D R) (nM 34 D m) (fun hf G w hw => do_un 34 _ _ _ _ bd br bm G _ R m w hw (C_xAt D hD 1 0) (flt0 hf).2.1)
theorem at_35 (bd br bm : Nat) (F : Nat → Prop) (D : List Int) (R : List (Int × Int)) (m : M.MS) (hD : ∀ x ∈ D, C.C x) (ht : m.tones.length ≤ 999000) (W : World) (h : PS W bd br bm F D R m) : Calls Tryz.prog 21 #[.int .i64 35, .pointer (some ⟨bd, 0, none⟩), .pointer (some ⟨br, 0, none⟩), .pointer (some ⟨bm, 0, none⟩)] W fun e W' => e = .returned (.int .i64 (fl 35 D R)) ∧ (fl 35 D R ≠ 0 → Below W.heap.size W W') ∧ (fl 35 D R = 0 → PD W W' bd br bm F (nD 35 D R m) (nR 35 D R) (nM 35 D m)) :=
  do_row 35 ⟨#[50, 47]⟩ 1 1 1 false 0 0 0 144 (by decide) (by decide) (fun w => ent_35 w) Tryz.call144 bd br bm F D R m W h ([C.un 35 (xAt D 1 0)]) (nR 35 D R) (nM 35 D m) (fun hf G w hw => do_un 35 _ _ _ _ bd br bm G _ R m w hw (C_xAt D hD 1 0) (flt0 hf).2.1)
theorem at_36 (bd br bm : Nat) (F : Nat → Prop) (D : List Int) (R : List (Int × Int)) (m : M.MS) (hD : ∀ x ∈ D, C.C x) (ht : m.tones.length ≤ 999000) (W : World) (h : PS W bd br bm F D R m) : Calls Tryz.prog 21 #[.int .i64 36, .pointer (some ⟨bd, 0, none⟩), .pointer (some ⟨br, 0, none⟩), .pointer (some ⟨bm, 0, none⟩)] W fun e W' => e = .returned (.int .i64 (fl 36 D R)) ∧ (fl 36 D R ≠ 0 → Below W.heap.size W W') ∧ (fl 36 D R = 0 → PD W W' bd br bm F (nD 36 D R m) (nR 36 D R) (nM 36 D m)) :=
  do_row 36 ⟨#[97, 110, 100]⟩ 2 1 1 false 0 0 0 142 (by decide) (by decide) (fun w => ent_36 w) Tryz.call142 bd br bm F D R m W h ([C.bi 36 (xAt D 2 0) (xAt D 2 1)]) (nR 36 D R) (nM 36 D m) (fun hf G w hw => do_bin 36 _ _ _ _ bd br bm G _ R m w hw (C_xAt D hD 2 0) (C_xAt D hD 2 1) (flt0 hf).2.1)
theorem at_37 (bd br bm : Nat) (F : Nat → Prop) (D : List Int) (R : List (Int × Int)) (m : M.MS) (hD : ∀ x ∈ D, C.C x) (ht : m.tones.length ≤ 999000) (W : World) (h : PS W bd br bm F D R m) : Calls Tryz.prog 21 #[.int .i64 37, .pointer (some ⟨bd, 0, none⟩), .pointer (some ⟨br, 0, none⟩), .pointer (some ⟨bm, 0, none⟩)] W fun e W' => e = .returned (.int .i64 (fl 37 D R)) ∧ (fl 37 D R ≠ 0 → Below W.heap.size W W') ∧ (fl 37 D R = 0 → PD W W' bd br bm F (nD 37 D R m) (nR 37 D R) (nM 37 D m)) :=
  do_row 37 ⟨#[111, 114]⟩ 2 1 1 false 0 0 0 142 (by decide) (by decide) (fun w => ent_37 w) Tryz.call142 bd br bm F D R m W h ([C.bi 37 (xAt D 2 0) (xAt D 2 1)]) (nR 37 D R) (nM 37 D m) (fun hf G w hw => do_bin 37 _ _ _ _ bd br bm G _ R m w hw (C_xAt D hD 2 0) (C_xAt D hD 2 1) (flt0 hf).2.1)
theorem at_38 (bd br bm : Nat) (F : Nat → Prop) (D : List Int) (R : List (Int × Int)) (m : M.MS) (hD : ∀ x ∈ D, C.C x) (ht : m.tones.length ≤ 999000) (W : World) (h : PS W bd br bm F D R m) : Calls Tryz.prog 21 #[.int .i64 38, .pointer (some ⟨bd, 0, none⟩), .pointer (some ⟨br, 0, none⟩), .pointer (some ⟨bm, 0, none⟩)] W fun e W' => e = .returned (.int .i64 (fl 38 D R)) ∧ (fl 38 D R ≠ 0 → Below W.heap.size W W') ∧ (fl 38 D R = 0 → PD W W' bd br bm F (nD 38 D R m) (nR 38 D R) (nM 38 D m)) :=
  do_row 38 ⟨#[120, 111, 114]⟩ 2 1 1 false 0 0 0 142 (by decide) (by decide) (fun w => ent_38 w) Tryz.call142 bd br bm F D R m W h ([C.bi 38 (xAt D 2 0) (xAt D 2 1)]) (nR 38 D R) (nM 38 D m) (fun hf G w hw => do_bin 38 _ _ _ _ bd br bm G _ R m w hw (C_xAt D hD 2 0) (C_xAt D hD 2 1) (flt0 hf).2.1)
theorem at_39 (bd br bm : Nat) (F : Nat → Prop) (D : List Int) (R : List (Int × Int)) (m : M.MS) (hD : ∀ x ∈ D, C.C x) (ht : m.tones.length ≤ 999000) (W : World) (h : PS W bd br bm F D R m) : Calls Tryz.prog 21 #[.int .i64 39, .pointer (some ⟨bd, 0, none⟩), .pointer (some ⟨br, 0, none⟩), .pointer (some ⟨bm, 0, none⟩)] W fun e W' => e = .returned (.int .i64 (fl 39 D R)) ∧ (fl 39 D R ≠ 0 → Below W.heap.size W W') ∧ (fl 39 D R = 0 → PD W W' bd br bm F (nD 39 D R m) (nR 39 D R) (nM 39 D m)) :=
  do_row 39 ⟨#[105, 110, 118, 101, 114, 116]⟩ 1 1 1 false 0 0 0 144 (by decide) (by decide) (fun w => ent_39 w) Tryz.call144 bd br bm F D R m W h ([C.un 39 (xAt D 1 0)]) (nR 39 D R) (nM 39 D m) (fun hf G w hw => do_un 39 _ _ _ _ bd br bm G _ R m w hw (C_xAt D hD 1 0) (flt0 hf).2.1)
theorem at_40 (bd br bm : Nat) (F : Nat → Prop) (D : List Int) (R : List (Int × Int)) (m : M.MS) (hD : ∀ x ∈ D, C.C x) (ht : m.tones.length ≤ 999000) (W : World) (h : PS W bd br bm F D R m) : Calls Tryz.prog 21 #[.int .i64 40, .pointer (some ⟨bd, 0, none⟩), .pointer (some ⟨br, 0, none⟩), .pointer (some ⟨bm, 0, none⟩)] W fun e W' => e = .returned (.int .i64 (fl 40 D R)) ∧ (fl 40 D R ≠ 0 → Below W.heap.size W W') ∧ (fl 40 D R = 0 → PD W W' bd br bm F (nD 40 D R m) (nR 40 D R) (nM 40 D m)) :=
  do_row 40 ⟨#[108, 115, 104, 105, 102, 116]⟩ 2 1 1 false 0 0 0 142 (by decide) (by decide) (fun w => ent_40 w) Tryz.call142 bd br bm F D R m W h ([C.bi 40 (xAt D 2 0) (xAt D 2 1)]) (nR 40 D R) (nM 40 D m) (fun hf G w hw => do_bin 40 _ _ _ _ bd br bm G _ R m w hw (C_xAt D hD 2 0) (C_xAt D hD 2 1) (flt0 hf).2.1)
theorem at_41 (bd br bm : Nat) (F : Nat → Prop) (D : List Int) (R : List (Int × Int)) (m : M.MS) (hD : ∀ x ∈ D, C.C x) (ht : m.tones.length ≤ 999000) (W : World) (h : PS W bd br bm F D R m) : Calls Tryz.prog 21 #[.int .i64 41, .pointer (some ⟨bd, 0, none⟩), .pointer (some ⟨br, 0, none⟩), .pointer (some ⟨bm, 0, none⟩)] W fun e W' => e = .returned (.int .i64 (fl 41 D R)) ∧ (fl 41 D R ≠ 0 → Below W.heap.size W W') ∧ (fl 41 D R = 0 → PD W W' bd br bm F (nD 41 D R m) (nR 41 D R) (nM 41 D m)) :=
  do_row 41 ⟨#[114, 115, 104, 105, 102, 116]⟩ 2 1 1 false 0 0 0 142 (by decide) (by decide) (fun w => ent_41 w) Tryz.call142 bd br bm F D R m W h ([C.bi 41 (xAt D 2 0) (xAt D 2 1)]) (nR 41 D R) (nM 41 D m) (fun hf G w hw => do_bin 41 _ _ _ _ bd br bm G _ R m w hw (C_xAt D hD 2 0) (C_xAt D hD 2 1) (flt0 hf).2.1)
theorem at_42 (bd br bm : Nat) (F : Nat → Prop) (D : List Int) (R : List (Int × Int)) (m : M.MS) (hD : ∀ x ∈ D, C.C x) (ht : m.tones.length ≤ 999000) (W : World) (h : PS W bd br bm F D R m) : Calls Tryz.prog 21 #[.int .i64 42, .pointer (some ⟨bd, 0, none⟩), .pointer (some ⟨br, 0, none⟩), .pointer (some ⟨bm, 0, none⟩)] W fun e W' => e = .returned (.int .i64 (fl 42 D R)) ∧ (fl 42 D R ≠ 0 → Below W.heap.size W W') ∧ (fl 42 D R = 0 → PD W W' bd br bm F (nD 42 D R m) (nR 42 D R) (nM 42 D m)) :=
  do_row 42 ⟨#[61]⟩ 2 1 1 false 0 0 0 142 (by decide) (by decide) (fun w => ent_42 w) Tryz.call142 bd br bm F D R m W h ([C.bi 42 (xAt D 2 0) (xAt D 2 1)]) (nR 42 D R) (nM 42 D m) (fun hf G w hw => do_bin 42 _ _ _ _ bd br bm G _ R m w hw (C_xAt D hD 2 0) (C_xAt D hD 2 1) (flt0 hf).2.1)
theorem at_43 (bd br bm : Nat) (F : Nat → Prop) (D : List Int) (R : List (Int × Int)) (m : M.MS) (hD : ∀ x ∈ D, C.C x) (ht : m.tones.length ≤ 999000) (W : World) (h : PS W bd br bm F D R m) : Calls Tryz.prog 21 #[.int .i64 43, .pointer (some ⟨bd, 0, none⟩), .pointer (some ⟨br, 0, none⟩), .pointer (some ⟨bm, 0, none⟩)] W fun e W' => e = .returned (.int .i64 (fl 43 D R)) ∧ (fl 43 D R ≠ 0 → Below W.heap.size W W') ∧ (fl 43 D R = 0 → PD W W' bd br bm F (nD 43 D R m) (nR 43 D R) (nM 43 D m)) :=
  do_row 43 ⟨#[60, 62]⟩ 2 1 1 false 0 0 0 142 (by decide) (by decide) (fun w => ent_43 w) Tryz.call142 bd br bm F D R m W h ([C.bi 43 (xAt D 2 0) (xAt D 2 1)]) (nR 43 D R) (nM 43 D m) (fun hf G w hw => do_bin 43 _ _ _ _ bd br bm G _ R m w hw (C_xAt D hD 2 0) (C_xAt D hD 2 1) (flt0 hf).2.1)
theorem at_44 (bd br bm : Nat) (F : Nat → Prop) (D : List Int) (R : List (Int × Int)) (m : M.MS) (hD : ∀ x ∈ D, C.C x) (ht : m.tones.length ≤ 999000) (W : World) (h : PS W bd br bm F D R m) : Calls Tryz.prog 21 #[.int .i64 44, .pointer (some ⟨bd, 0, none⟩), .pointer (some ⟨br, 0, none⟩), .pointer (some ⟨bm, 0, none⟩)] W fun e W' => e = .returned (.int .i64 (fl 44 D R)) ∧ (fl 44 D R ≠ 0 → Below W.heap.size W W') ∧ (fl 44 D R = 0 → PD W W' bd br bm F (nD 44 D R m) (nR 44 D R) (nM 44 D m)) :=
  do_row 44 ⟨#[60]⟩ 2 1 1 false 0 0 0 142 (by decide) (by decide) (fun w => ent_44 w) Tryz.call142 bd br bm F D R m W h ([C.bi 44 (xAt D 2 0) (xAt D 2 1)]) (nR 44 D R) (nM 44 D m) (fun hf G w hw => do_bin 44 _ _ _ _ bd br bm G _ R m w hw (C_xAt D hD 2 0) (C_xAt D hD 2 1) (flt0 hf).2.1)
theorem at_45 (bd br bm : Nat) (F : Nat → Prop) (D : List Int) (R : List (Int × Int)) (m : M.MS) (hD : ∀ x ∈ D, C.C x) (ht : m.tones.length ≤ 999000) (W : World) (h : PS W bd br bm F D R m) : Calls Tryz.prog 21 #[.int .i64 45, .pointer (some ⟨bd, 0, none⟩), .pointer (some ⟨br, 0, none⟩), .pointer (some ⟨bm, 0, none⟩)] W fun e W' => e = .returned (.int .i64 (fl 45 D R)) ∧ (fl 45 D R ≠ 0 → Below W.heap.size W W') ∧ (fl 45 D R = 0 → PD W W' bd br bm F (nD 45 D R m) (nR 45 D R) (nM 45 D m)) :=
  do_row 45 ⟨#[62]⟩ 2 1 1 false 0 0 0 142 (by decide) (by decide) (fun w => ent_45 w) Tryz.call142 bd br bm F D R m W h ([C.bi 45 (xAt D 2 0) (xAt D 2 1)]) (nR 45 D R) (nM 45 D m) (fun hf G w hw => do_bin 45 _ _ _ _ bd br bm G _ R m w hw (C_xAt D hD 2 0) (C_xAt D hD 2 1) (flt0 hf).2.1)
theorem at_46 (bd br bm : Nat) (F : Nat → Prop) (D : List Int) (R : List (Int × Int)) (m : M.MS) (hD : ∀ x ∈ D, C.C x) (ht : m.tones.length ≤ 999000) (W : World) (h : PS W bd br bm F D R m) : Calls Tryz.prog 21 #[.int .i64 46, .pointer (some ⟨bd, 0, none⟩), .pointer (some ⟨br, 0, none⟩), .pointer (some ⟨bm, 0, none⟩)] W fun e W' => e = .returned (.int .i64 (fl 46 D R)) ∧ (fl 46 D R ≠ 0 → Below W.heap.size W W') ∧ (fl 46 D R = 0 → PD W W' bd br bm F (nD 46 D R m) (nR 46 D R) (nM 46 D m)) :=
  do_row 46 ⟨#[117, 60]⟩ 2 1 1 false 0 0 0 142 (by decide) (by decide) (fun w => ent_46 w) Tryz.call142 bd br bm F D R m W h ([C.bi 46 (xAt D 2 0) (xAt D 2 1)]) (nR 46 D R) (nM 46 D m) (fun hf G w hw => do_bin 46 _ _ _ _ bd br bm G _ R m w hw (C_xAt D hD 2 0) (C_xAt D hD 2 1) (flt0 hf).2.1)
theorem at_47 (bd br bm : Nat) (F : Nat → Prop) (D : List Int) (R : List (Int × Int)) (m : M.MS) (hD : ∀ x ∈ D, C.C x) (ht : m.tones.length ≤ 999000) (W : World) (h : PS W bd br bm F D R m) : Calls Tryz.prog 21 #[.int .i64 47, .pointer (some ⟨bd, 0, none⟩), .pointer (some ⟨br, 0, none⟩), .pointer (some ⟨bm, 0, none⟩)] W fun e W' => e = .returned (.int .i64 (fl 47 D R)) ∧ (fl 47 D R ≠ 0 → Below W.heap.size W W') ∧ (fl 47 D R = 0 → PD W W' bd br bm F (nD 47 D R m) (nR 47 D R) (nM 47 D m)) :=
  do_row 47 ⟨#[117, 62]⟩ 2 1 1 false 0 0 0 142 (by decide) (by decide) (fun w => ent_47 w) Tryz.call142 bd br bm F D R m W h ([C.bi 47 (xAt D 2 0) (xAt D 2 1)]) (nR 47 D R) (nM 47 D m) (fun hf G w hw => do_bin 47 _ _ _ _ bd br bm G _ R m w hw (C_xAt D hD 2 0) (C_xAt D hD 2 1) (flt0 hf).2.1)
theorem at_48 (bd br bm : Nat) (F : Nat → Prop) (D : List Int) (R : List (Int × Int)) (m : M.MS) (hD : ∀ x ∈ D, C.C x) (ht : m.tones.length ≤ 999000) (W : World) (h : PS W bd br bm F D R m) : Calls Tryz.prog 21 #[.int .i64 48, .pointer (some ⟨bd, 0, none⟩), .pointer (some ⟨br, 0, none⟩), .pointer (some ⟨bm, 0, none⟩)] W fun e W' => e = .returned (.int .i64 (fl 48 D R)) ∧ (fl 48 D R ≠ 0 → Below W.heap.size W W') ∧ (fl 48 D R = 0 → PD W W' bd br bm F (nD 48 D R m) (nR 48 D R) (nM 48 D m)) :=
  do_row 48 ⟨#[48, 61]⟩ 1 1 1 false 0 0 0 144 (by decide) (by decide) (fun w => ent_48 w) Tryz.call144 bd br bm F D R m W h ([C.un 48 (xAt D 1 0)]) (nR 48 D R) (nM 48 D m) (fun hf G w hw => do_un 48 _ _ _ _ bd br bm G _ R m w hw (C_xAt D hD 1 0) (flt0 hf).2.1)
theorem at_49 (bd br bm : Nat) (F : Nat → Prop) (D : List Int) (R : List (Int × Int)) (m : M.MS) (hD : ∀ x ∈ D, C.C x) (ht : m.tones.length ≤ 999000) (W : World) (h : PS W bd br bm F D R m) : Calls Tryz.prog 21 #[.int .i64 49, .pointer (some ⟨bd, 0, none⟩), .pointer (some ⟨br, 0, none⟩), .pointer (some ⟨bm, 0, none⟩)] W fun e W' => e = .returned (.int .i64 (fl 49 D R)) ∧ (fl 49 D R ≠ 0 → Below W.heap.size W W') ∧ (fl 49 D R = 0 → PD W W' bd br bm F (nD 49 D R m) (nR 49 D R) (nM 49 D m)) :=
  do_row 49 ⟨#[48, 60]⟩ 1 1 1 false 0 0 0 144 (by decide) (by decide) (fun w => ent_49 w) Tryz.call144 bd br bm F D R m W h ([C.un 49 (xAt D 1 0)]) (nR 49 D R) (nM 49 D m) (fun hf G w hw => do_un 49 _ _ _ _ bd br bm G _ R m w hw (C_xAt D hD 1 0) (flt0 hf).2.1)
theorem at_50 (bd br bm : Nat) (F : Nat → Prop) (D : List Int) (R : List (Int × Int)) (m : M.MS) (hD : ∀ x ∈ D, C.C x) (ht : m.tones.length ≤ 999000) (W : World) (h : PS W bd br bm F D R m) : Calls Tryz.prog 21 #[.int .i64 50, .pointer (some ⟨bd, 0, none⟩), .pointer (some ⟨br, 0, none⟩), .pointer (some ⟨bm, 0, none⟩)] W fun e W' => e = .returned (.int .i64 (fl 50 D R)) ∧ (fl 50 D R ≠ 0 → Below W.heap.size W W') ∧ (fl 50 D R = 0 → PD W W' bd br bm F (nD 50 D R m) (nR 50 D R) (nM 50 D m)) :=
  do_row 50 ⟨#[64]⟩ 1 1 2 false 0 0 0 119 (by decide) (by decide) (fun w => ent_50 w) Tryz.call119 bd br bm F D R m W h ([M.cl m (xAt D 1 0)]) (nR 50 D R) (nM 50 D m) (fun hf G w hw => do_fetch 50 _ _ _ _ bd br bm G _ R m w hw (C_xAt D hD 1 0) (flt0 hf).2.1)
theorem at_51 (bd br bm : Nat) (F : Nat → Prop) (D : List Int) (R : List (Int × Int)) (m : M.MS) (hD : ∀ x ∈ D, C.C x) (ht : m.tones.length ≤ 999000) (W : World) (h : PS W bd br bm F D R m) : Calls Tryz.prog 21 #[.int .i64 51, .pointer (some ⟨bd, 0, none⟩), .pointer (some ⟨br, 0, none⟩), .pointer (some ⟨bm, 0, none⟩)] W fun e W' => e = .returned (.int .i64 (fl 51 D R)) ∧ (fl 51 D R ≠ 0 → Below W.heap.size W W') ∧ (fl 51 D R = 0 → PD W W' bd br bm F (nD 51 D R m) (nR 51 D R) (nM 51 D m)) :=
  do_row 51 ⟨#[33]⟩ 2 0 2 false 0 0 0 120 (by decide) (by decide) (fun w => ent_51 w) Tryz.call120 bd br bm F D R m W h ([]) (nR 51 D R) (nM 51 D m) (fun hf G w hw => by
    rw [List.append_nil]
    exact do_store 51 _ _ _ _ bd br bm G _ R m w hw (C_xAt D hD 2 0) (C_xAt D hD 2 1) ht)
theorem at_52 (bd br bm : Nat) (F : Nat → Prop) (D : List Int) (R : List (Int × Int)) (m : M.MS) (hD : ∀ x ∈ D, C.C x) (ht : m.tones.length ≤ 999000) (W : World) (h : PS W bd br bm F D R m) : Calls Tryz.prog 21 #[.int .i64 52, .pointer (some ⟨bd, 0, none⟩), .pointer (some ⟨br, 0, none⟩), .pointer (some ⟨bm, 0, none⟩)] W fun e W' => e = .returned (.int .i64 (fl 52 D R)) ∧ (fl 52 D R ≠ 0 → Below W.heap.size W W') ∧ (fl 52 D R = 0 → PD W W' bd br bm F (nD 52 D R m) (nR 52 D R) (nM 52 D m)) :=
  do_row 52 ⟨#[99, 64]⟩ 1 1 2 false 0 0 0 122 (by decide) (by decide) (fun w => ent_52 w) Tryz.call122 bd br bm F D R m W h ([M.ld m (xAt D 1 0)]) (nR 52 D R) (nM 52 D m) (fun hf G w hw => do_cfetch 52 _ _ _ _ bd br bm G _ R m w hw (C_xAt D hD 1 0) (flt0 hf).2.1)
theorem at_53 (bd br bm : Nat) (F : Nat → Prop) (D : List Int) (R : List (Int × Int)) (m : M.MS) (hD : ∀ x ∈ D, C.C x) (ht : m.tones.length ≤ 999000) (W : World) (h : PS W bd br bm F D R m) : Calls Tryz.prog 21 #[.int .i64 53, .pointer (some ⟨bd, 0, none⟩), .pointer (some ⟨br, 0, none⟩), .pointer (some ⟨bm, 0, none⟩)] W fun e W' => e = .returned (.int .i64 (fl 53 D R)) ∧ (fl 53 D R ≠ 0 → Below W.heap.size W W') ∧ (fl 53 D R = 0 → PD W W' bd br bm F (nD 53 D R m) (nR 53 D R) (nM 53 D m)) :=
  do_row 53 ⟨#[99, 33]⟩ 2 0 2 false 0 0 0 123 (by decide) (by decide) (fun w => ent_53 w) Tryz.call123 bd br bm F D R m W h ([]) (nR 53 D R) (nM 53 D m) (fun hf G w hw => by
    rw [List.append_nil]
    exact do_cstore 53 _ _ _ _ bd br bm G _ R m w hw (C_xAt D hD 2 0) (C_xAt D hD 2 1) ht)
theorem at_54 (bd br bm : Nat) (F : Nat → Prop) (D : List Int) (R : List (Int × Int)) (m : M.MS) (hD : ∀ x ∈ D, C.C x) (ht : m.tones.length ≤ 999000) (W : World) (h : PS W bd br bm F D R m) : Calls Tryz.prog 21 #[.int .i64 54, .pointer (some ⟨bd, 0, none⟩), .pointer (some ⟨br, 0, none⟩), .pointer (some ⟨bm, 0, none⟩)] W fun e W' => e = .returned (.int .i64 (fl 54 D R)) ∧ (fl 54 D R ≠ 0 → Below W.heap.size W W') ∧ (fl 54 D R = 0 → PD W W' bd br bm F (nD 54 D R m) (nR 54 D R) (nM 54 D m)) :=
  do_row 54 ⟨#[43, 33]⟩ 2 0 3 false 0 0 0 124 (by decide) (by decide) (fun w => ent_54 w) Tryz.call124 bd br bm F D R m W h ([]) (nR 54 D R) (nM 54 D m) (fun hf G w hw => by
    rw [List.append_nil]
    exact do_plus 54 _ _ _ _ bd br bm G _ R m w hw (C_xAt D hD 2 0) (C_xAt D hD 2 1) ht)
theorem at_55 (bd br bm : Nat) (F : Nat → Prop) (D : List Int) (R : List (Int × Int)) (m : M.MS) (hD : ∀ x ∈ D, C.C x) (ht : m.tones.length ≤ 999000) (W : World) (h : PS W bd br bm F D R m) : Calls Tryz.prog 21 #[.int .i64 55, .pointer (some ⟨bd, 0, none⟩), .pointer (some ⟨br, 0, none⟩), .pointer (some ⟨bm, 0, none⟩)] W fun e W' => e = .returned (.int .i64 (fl 55 D R)) ∧ (fl 55 D R ≠ 0 → Below W.heap.size W W') ∧ (fl 55 D R = 0 → PD W W' bd br bm F (nD 55 D R m) (nR 55 D R) (nM 55 D m)) :=
  do_row 55 ⟨#[62, 114]⟩ 1 0 1 false 0 0 1 125 (by decide) (by decide) (fun w => ent_55 w) Tryz.call125 bd br bm F D R m W h ([]) (nR 55 D R) (nM 55 D m) (fun hf G w hw => by
    rw [List.append_nil]
    exact do_toR 55 _ _ _ _ bd br bm G _ R m w hw (flt0 hf).2.2.2)
theorem at_56 (bd br bm : Nat) (F : Nat → Prop) (D : List Int) (R : List (Int × Int)) (m : M.MS) (hD : ∀ x ∈ D, C.C x) (ht : m.tones.length ≤ 999000) (W : World) (h : PS W bd br bm F D R m) : Calls Tryz.prog 21 #[.int .i64 56, .pointer (some ⟨bd, 0, none⟩), .pointer (some ⟨br, 0, none⟩), .pointer (some ⟨bm, 0, none⟩)] W fun e W' => e = .returned (.int .i64 (fl 56 D R)) ∧ (fl 56 D R ≠ 0 → Below W.heap.size W W') ∧ (fl 56 D R = 0 → PD W W' bd br bm F (nD 56 D R m) (nR 56 D R) (nM 56 D m)) :=
  do_row 56 ⟨#[114, 62]⟩ 0 1 1 false 4 0 0 126 (by decide) (by decide) (fun w => ent_56 w) Tryz.call126 bd br bm F D R m W h ([(lk 4 0 R).1]) (nR 56 D R) (nM 56 D m) (fun hf G w hw => do_fromR 56 _ _ _ _ bd br bm G _ R m w hw _ _ (lk_saved (flt0 hf).2.2.1) (flt0 hf).2.1)
theorem at_57 (bd br bm : Nat) (F : Nat → Prop) (D : List Int) (R : List (Int × Int)) (m : M.MS) (hD : ∀ x ∈ D, C.C x) (ht : m.tones.length ≤ 999000) (W : World) (h : PS W bd br bm F D R m) : Calls Tryz.prog 21 #[.int .i64 57, .pointer (some ⟨bd, 0, none⟩), .pointer (some ⟨br, 0, none⟩), .pointer (some ⟨bm, 0, none⟩)] W fun e W' => e = .returned (.int .i64 (fl 57 D R)) ∧ (fl 57 D R ≠ 0 → Below W.heap.size W W') ∧ (fl 57 D R = 0 → PD W W' bd br bm F (nD 57 D R m) (nR 57 D R) (nM 57 D m)) :=
  do_row 57 ⟨#[114, 64]⟩ 0 1 1 false 4 0 0 147 (by decide) (by decide) (fun w => ent_57 w) Tryz.call147 bd br bm F D R m W h ([(lk 4 0 R).1]) (nR 57 D R) (nM 57 D m) (fun hf G w hw => do_peek 57 _ _ _ _ bd br bm G _ R m w hw (flt0 hf).2.1)
theorem at_58 (bd br bm : Nat) (F : Nat → Prop) (D : List Int) (R : List (Int × Int)) (m : M.MS) (hD : ∀ x ∈ D, C.C x) (ht : m.tones.length ≤ 999000) (W : World) (h : PS W bd br bm F D R m) : Calls Tryz.prog 21 #[.int .i64 58, .pointer (some ⟨bd, 0, none⟩), .pointer (some ⟨br, 0, none⟩), .pointer (some ⟨bm, 0, none⟩)] W fun e W' => e = .returned (.int .i64 (fl 58 D R)) ∧ (fl 58 D R ≠ 0 → Below W.heap.size W W') ∧ (fl 58 D R = 0 → PD W W' bd br bm F (nD 58 D R m) (nR 58 D R) (nM 58 D m)) :=
  do_row 58 ⟨#[105]⟩ 0 1 1 false 3 0 0 147 (by decide) (by decide) (fun w => ent_58 w) Tryz.call147 bd br bm F D R m W h ([(lk 3 0 R).1]) (nR 58 D R) (nM 58 D m) (fun hf G w hw => do_peek 58 _ _ _ _ bd br bm G _ R m w hw (flt0 hf).2.1)
theorem at_59 (bd br bm : Nat) (F : Nat → Prop) (D : List Int) (R : List (Int × Int)) (m : M.MS) (hD : ∀ x ∈ D, C.C x) (ht : m.tones.length ≤ 999000) (W : World) (h : PS W bd br bm F D R m) : Calls Tryz.prog 21 #[.int .i64 59, .pointer (some ⟨bd, 0, none⟩), .pointer (some ⟨br, 0, none⟩), .pointer (some ⟨bm, 0, none⟩)] W fun e W' => e = .returned (.int .i64 (fl 59 D R)) ∧ (fl 59 D R ≠ 0 → Below W.heap.size W W') ∧ (fl 59 D R = 0 → PD W W' bd br bm F (nD 59 D R m) (nR 59 D R) (nM 59 D m)) :=
  do_row 59 ⟨#[106]⟩ 0 1 1 false 3 2 0 147 (by decide) (by decide) (fun w => ent_59 w) Tryz.call147 bd br bm F D R m W h ([(lk 3 2 R).1]) (nR 59 D R) (nM 59 D m) (fun hf G w hw => do_peek 59 _ _ _ _ bd br bm G _ R m w hw (flt0 hf).2.1)
theorem at_60 (bd br bm : Nat) (F : Nat → Prop) (D : List Int) (R : List (Int × Int)) (m : M.MS) (hD : ∀ x ∈ D, C.C x) (ht : m.tones.length ≤ 999000) (W : World) (h : PS W bd br bm F D R m) : Calls Tryz.prog 21 #[.int .i64 60, .pointer (some ⟨bd, 0, none⟩), .pointer (some ⟨br, 0, none⟩), .pointer (some ⟨bm, 0, none⟩)] W fun e W' => e = .returned (.int .i64 (fl 60 D R)) ∧ (fl 60 D R ≠ 0 → Below W.heap.size W W') ∧ (fl 60 D R = 0 → PD W W' bd br bm F (nD 60 D R m) (nR 60 D R) (nM 60 D m)) :=
  do_row 60 ⟨#[112, 108, 111, 116]⟩ 3 0 3 false 0 0 0 129 (by decide) (by decide) (fun w => ent_60 w) Tryz.call129 bd br bm F D R m W h ([]) (nR 60 D R) (nM 60 D m) (fun hf G w hw => by
    rw [List.append_nil]
    exact do_plot 60 _ _ _ _ bd br bm G _ R m w hw (C_xAt D hD 3 0) (C_xAt D hD 3 1) ht)
theorem at_61 (bd br bm : Nat) (F : Nat → Prop) (D : List Int) (R : List (Int × Int)) (m : M.MS) (hD : ∀ x ∈ D, C.C x) (ht : m.tones.length ≤ 999000) (W : World) (h : PS W bd br bm F D R m) : Calls Tryz.prog 21 #[.int .i64 61, .pointer (some ⟨bd, 0, none⟩), .pointer (some ⟨br, 0, none⟩), .pointer (some ⟨bm, 0, none⟩)] W fun e W' => e = .returned (.int .i64 (fl 61 D R)) ∧ (fl 61 D R ≠ 0 → Below W.heap.size W W') ∧ (fl 61 D R = 0 → PD W W' bd br bm F (nD 61 D R m) (nR 61 D R) (nM 61 D m)) :=
  do_row 61 ⟨#[112, 97, 100]⟩ 0 1 1 false 0 0 0 131 (by decide) (by decide) (fun w => ent_61 w) Tryz.call131 bd br bm F D R m W h ([m.pad]) (nR 61 D R) (nM 61 D m) (fun hf G w hw => do_pad 61 _ _ _ _ bd br bm G _ R m w hw (flt0 hf).2.1)
theorem at_62 (bd br bm : Nat) (F : Nat → Prop) (D : List Int) (R : List (Int × Int)) (m : M.MS) (hD : ∀ x ∈ D, C.C x) (ht : m.tones.length ≤ 999000) (W : World) (h : PS W bd br bm F D R m) : Calls Tryz.prog 21 #[.int .i64 62, .pointer (some ⟨bd, 0, none⟩), .pointer (some ⟨br, 0, none⟩), .pointer (some ⟨bm, 0, none⟩)] W fun e W' => e = .returned (.int .i64 (fl 62 D R)) ∧ (fl 62 D R ≠ 0 → Below W.heap.size W W') ∧ (fl 62 D R = 0 → PD W W' bd br bm F (nD 62 D R m) (nR 62 D R) (nM 62 D m)) :=
  do_row 62 ⟨#[116, 111, 110, 101]⟩ 2 0 2 false 0 0 0 133 (by decide) (by decide) (fun w => ent_62 w) Tryz.call133 bd br bm F D R m W h ([]) (nR 62 D R) (nM 62 D m) (fun hf G w hw => by
    rw [List.append_nil]
    exact do_tone 62 _ _ _ _ bd br bm G _ R m w hw (C_xAt D hD 2 0) (C_xAt D hD 2 1) ht)
theorem at_63 (bd br bm : Nat) (F : Nat → Prop) (D : List Int) (R : List (Int × Int)) (m : M.MS) (hD : ∀ x ∈ D, C.C x) (ht : m.tones.length ≤ 999000) (W : World) (h : PS W bd br bm F D R m) : Calls Tryz.prog 21 #[.int .i64 63, .pointer (some ⟨bd, 0, none⟩), .pointer (some ⟨br, 0, none⟩), .pointer (some ⟨bm, 0, none⟩)] W fun e W' => e = .returned (.int .i64 (fl 63 D R)) ∧ (fl 63 D R ≠ 0 → Below W.heap.size W W') ∧ (fl 63 D R = 0 → PD W W' bd br bm F (nD 63 D R m) (nR 63 D R) (nM 63 D m)) :=
  do_row 63 ⟨#[98, 97, 110, 107]⟩ 1 0 1 false 0 0 0 135 (by decide) (by decide) (fun w => ent_63 w) Tryz.call135 bd br bm F D R m W h ([]) (nR 63 D R) (nM 63 D m) (fun hf G w hw => by
    rw [List.append_nil]
    exact do_bank 63 _ _ _ _ bd br bm G _ R m w hw (C_xAt D hD 1 0) (C_xAt D hD 1 1) ht)
theorem plain_cases (op : Int) (h : plain op = true) : op = 6 ∨ op = 9 ∨ op = 12 ∨ op = 13 ∨ op = 14 ∨ op = 15 ∨ op = 16 ∨ op = 17 ∨ op = 18 ∨ op = 19 ∨ op = 20 ∨ op = 21 ∨ op = 22 ∨ op = 23 ∨ op = 24 ∨ op = 25 ∨ op = 26 ∨ op = 27 ∨ op = 28 ∨ op = 29 ∨ op = 30 ∨ op = 31 ∨ op = 32 ∨ op = 33 ∨ op = 34 ∨ op = 35 ∨ op = 36 ∨ op = 37 ∨ op = 38 ∨ op = 39 ∨ op = 40 ∨ op = 41 ∨ op = 42 ∨ op = 43 ∨ op = 44 ∨ op = 45 ∨ op = 46 ∨ op = 47 ∨ op = 48 ∨ op = 49 ∨ op = 50 ∨ op = 51 ∨ op = 52 ∨ op = 53 ∨ op = 54 ∨ op = 55 ∨ op = 56 ∨ op = 57 ∨ op = 58 ∨ op = 59 ∨ op = 60 ∨ op = 61 ∨ op = 62 ∨ op = 63 := by
  unfold plain at h
  simp only [Bool.or_eq_true, Bool.and_eq_true, beq_iff_eq, decide_eq_true_eq] at h
  omega
theorem do_any (op : Int) (hp : plain op = true) (bd br bm : Nat) (F : Nat → Prop) (D : List Int) (R : List (Int × Int)) (m : M.MS) (hD : ∀ x ∈ D, C.C x) (ht : m.tones.length ≤ 999000) (W : World) (h : PS W bd br bm F D R m) : Calls Tryz.prog 21 #[.int .i64 op, .pointer (some ⟨bd, 0, none⟩), .pointer (some ⟨br, 0, none⟩), .pointer (some ⟨bm, 0, none⟩)] W fun e W' => e = .returned (.int .i64 (fl op D R)) ∧ (fl op D R ≠ 0 → Below W.heap.size W W') ∧ (fl op D R = 0 → PD W W' bd br bm F (nD op D R m) (nR op D R) (nM op D m)) := by
  rcases plain_cases op hp with rfl | rfl | rfl | rfl | rfl | rfl | rfl | rfl | rfl | rfl | rfl | rfl | rfl | rfl | rfl | rfl | rfl | rfl | rfl | rfl | rfl | rfl | rfl | rfl | rfl | rfl | rfl | rfl | rfl | rfl | rfl | rfl | rfl | rfl | rfl | rfl | rfl | rfl | rfl | rfl | rfl | rfl | rfl | rfl | rfl | rfl | rfl | rfl | rfl | rfl | rfl | rfl | rfl | rfl
  · exact at_6 bd br bm F D R m hD ht W h
  · exact at_9 bd br bm F D R m hD ht W h
  · exact at_12 bd br bm F D R m hD ht W h
  · exact at_13 bd br bm F D R m hD ht W h
  · exact at_14 bd br bm F D R m hD ht W h
  · exact at_15 bd br bm F D R m hD ht W h
  · exact at_16 bd br bm F D R m hD ht W h
  · exact at_17 bd br bm F D R m hD ht W h
  · exact at_18 bd br bm F D R m hD ht W h
  · exact at_19 bd br bm F D R m hD ht W h
  · exact at_20 bd br bm F D R m hD ht W h
  · exact at_21 bd br bm F D R m hD ht W h
  · exact at_22 bd br bm F D R m hD ht W h
  · exact at_23 bd br bm F D R m hD ht W h
  · exact at_24 bd br bm F D R m hD ht W h
  · exact at_25 bd br bm F D R m hD ht W h
  · exact at_26 bd br bm F D R m hD ht W h
  · exact at_27 bd br bm F D R m hD ht W h
  · exact at_28 bd br bm F D R m hD ht W h
  · exact at_29 bd br bm F D R m hD ht W h
  · exact at_30 bd br bm F D R m hD ht W h
  · exact at_31 bd br bm F D R m hD ht W h
  · exact at_32 bd br bm F D R m hD ht W h
  · exact at_33 bd br bm F D R m hD ht W h
  · exact at_34 bd br bm F D R m hD ht W h
  · exact at_35 bd br bm F D R m hD ht W h
  · exact at_36 bd br bm F D R m hD ht W h
  · exact at_37 bd br bm F D R m hD ht W h
  · exact at_38 bd br bm F D R m hD ht W h
  · exact at_39 bd br bm F D R m hD ht W h
  · exact at_40 bd br bm F D R m hD ht W h
  · exact at_41 bd br bm F D R m hD ht W h
  · exact at_42 bd br bm F D R m hD ht W h
  · exact at_43 bd br bm F D R m hD ht W h
  · exact at_44 bd br bm F D R m hD ht W h
  · exact at_45 bd br bm F D R m hD ht W h
  · exact at_46 bd br bm F D R m hD ht W h
  · exact at_47 bd br bm F D R m hD ht W h
  · exact at_48 bd br bm F D R m hD ht W h
  · exact at_49 bd br bm F D R m hD ht W h
  · exact at_50 bd br bm F D R m hD ht W h
  · exact at_51 bd br bm F D R m hD ht W h
  · exact at_52 bd br bm F D R m hD ht W h
  · exact at_53 bd br bm F D R m hD ht W h
  · exact at_54 bd br bm F D R m hD ht W h
  · exact at_55 bd br bm F D R m hD ht W h
  · exact at_56 bd br bm F D R m hD ht W h
  · exact at_57 bd br bm F D R m hD ht W h
  · exact at_58 bd br bm F D R m hD ht W h
  · exact at_59 bd br bm F D R m hD ht W h
  · exact at_60 bd br bm F D R m hD ht W h
  · exact at_61 bd br bm F D R m hD ht W h
  · exact at_62 bd br bm F D R m hD ht W h
  · exact at_63 bd br bm F D R m hD ht W h
end Go.Proofs.YtgponcjjnjpfkabGreat.P
