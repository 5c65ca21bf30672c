import Derived.Test.YtgponcjjnjpfkaaGreatPDoes
/-! What shuffles do. -/
namespace Go.Proofs.YtgponcjjnjpfkaaGreat.P
open Go.RowKit
open Go.Proofs
set_option linter.unusedVariables false
set_option linter.unusedSimpArgs false
set_option maxHeartbeats 2000000
set_option maxRecDepth 100000
theorem do_nop (op x y z s : Int) (bd br bm : Nat) (F : Nat → Prop) (D : List Int) (R : List (Int × Int)) (m : M.MS) (W : World) (h : PS W bd br bm F D R m)  :
    Calls Tryz.prog 90 #[.agg #[.int .i64 op, .int .u16 x, .int .u16 y, .int .u16 z, .int .u16 s, .pointer (some ⟨bd, 0, none⟩), .pointer (some ⟨br, 0, none⟩), .pointer (some ⟨bm, 0, none⟩)]] W fun e W' => e = .returned (.tuple #[]) ∧ PD W W' bd br bm F (D) (R) (m) := by
  go_enter Tryz.func90, Tryz.ntmps90
  go_wp2
  go_end0
  exact ⟨rfl, h.same (bel_alloc W _)⟩
theorem do_drop (op x y z s : Int) (bd br bm : Nat) (F : Nat → Prop) (D : List Int) (R : List (Int × Int)) (m : M.MS) (W : World) (h : PS W bd br bm F D R m)  :
    Calls Tryz.prog 93 #[.agg #[.int .i64 op, .int .u16 x, .int .u16 y, .int .u16 z, .int .u16 s, .pointer (some ⟨bd, 0, none⟩), .pointer (some ⟨br, 0, none⟩), .pointer (some ⟨bm, 0, none⟩)]] W fun e W' => e = .returned (.tuple #[]) ∧ PD W W' bd br bm F (D) (R) (m) := by
  go_enter Tryz.func93, Tryz.ntmps93
  go_wp2
  go_end0
  exact ⟨rfl, h.same (bel_alloc W _)⟩
theorem do_drop2 (op x y z s : Int) (bd br bm : Nat) (F : Nat → Prop) (D : List Int) (R : List (Int × Int)) (m : M.MS) (W : World) (h : PS W bd br bm F D R m)  :
    Calls Tryz.prog 100 #[.agg #[.int .i64 op, .int .u16 x, .int .u16 y, .int .u16 z, .int .u16 s, .pointer (some ⟨bd, 0, none⟩), .pointer (some ⟨br, 0, none⟩), .pointer (some ⟨bm, 0, none⟩)]] W fun e W' => e = .returned (.tuple #[]) ∧ PD W W' bd br bm F (D) (R) (m) := by
  go_enter Tryz.func100, Tryz.ntmps100
  go_wp2
  go_end0
  exact ⟨rfl, h.same (bel_alloc W _)⟩
theorem do_dup (op x y z s : Int) (bd br bm : Nat) (F : Nat → Prop) (D : List Int) (R : List (Int × Int)) (m : M.MS) (W : World) (h : PS W bd br bm F D R m) (hl : D.length + 2 ≤ 256) :
    Calls Tryz.prog 91 #[.agg #[.int .i64 op, .int .u16 x, .int .u16 y, .int .u16 z, .int .u16 s, .pointer (some ⟨bd, 0, none⟩), .pointer (some ⟨br, 0, none⟩), .pointer (some ⟨bm, 0, none⟩)]] W fun e W' => e = .returned (.tuple #[]) ∧ PD W W' bd br bm F (D ++ [x, x]) (R) (m) := by
  have hb := (bel_alloc W (.cells #[.int .i64 op, .int .u16 x, .int .u16 y, .int .u16 z, .int .u16 s, .pointer (some ⟨bd, 0, none⟩), .pointer (some ⟨br, 0, none⟩), .pointer (some ⟨bm, 0, none⟩)] 102)).alloc (bel_alloc W (.cells #[.int .i64 op, .int .u16 x, .int .u16 y, .int .u16 z, .int .u16 s, .pointer (some ⟨bd, 0, none⟩), .pointer (some ⟨br, 0, none⟩), .pointer (some ⟨bm, 0, none⟩)] 102)).size (.cells #[.int .u16 x, .int .u16 x] 26)
  have hs : S.Sl S.eU 1 ((W.alloc (.cells #[.int .i64 op, .int .u16 x, .int .u16 y, .int .u16 z, .int .u16 s, .pointer (some ⟨bd, 0, none⟩), .pointer (some ⟨br, 0, none⟩), .pointer (some ⟨bm, 0, none⟩)] 102)).alloc (.cells #[.int .u16 x, .int .u16 x] 26)) (some ⟨W.heap.size + 1, 0, none⟩) [x, x] := sl_block S.hU _ _ 26 _ (heap_alloc2_new W _ _)
  have hp := put_any op x y z s bd br bm D [x, x] (some ⟨W.heap.size + 1, 0, none⟩) 2 _ (h.d.below hb) hs hl
  simp only [List.length_cons, List.length_nil, Nat.reduceAdd] at hp
  clear hb hs
  go_enter Tryz.func91, Tryz.ntmps91
  go_wp2_with fail
  refine hp.mono ?_
  rintro e w1 ⟨rfl, h1, h2⟩
  go_wp2
  go_end0
  exact ⟨rfl, h.put h1 (at_alloc _ (at_alloc _ h2))⟩
theorem do_swap (op x y z s : Int) (bd br bm : Nat) (F : Nat → Prop) (D : List Int) (R : List (Int × Int)) (m : M.MS) (W : World) (h : PS W bd br bm F D R m) (hl : D.length + 2 ≤ 256) :
    Calls Tryz.prog 94 #[.agg #[.int .i64 op, .int .u16 x, .int .u16 y, .int .u16 z, .int .u16 s, .pointer (some ⟨bd, 0, none⟩), .pointer (some ⟨br, 0, none⟩), .pointer (some ⟨bm, 0, none⟩)]] W fun e W' => e = .returned (.tuple #[]) ∧ PD W W' bd br bm F (D ++ [y, x]) (R) (m) := by
  have hb := (bel_alloc W (.cells #[.int .i64 op, .int .u16 x, .int .u16 y, .int .u16 z, .int .u16 s, .pointer (some ⟨bd, 0, none⟩), .pointer (some ⟨br, 0, none⟩), .pointer (some ⟨bm, 0, none⟩)] 102)).alloc (bel_alloc W (.cells #[.int .i64 op, .int .u16 x, .int .u16 y, .int .u16 z, .int .u16 s, .pointer (some ⟨bd, 0, none⟩), .pointer (some ⟨br, 0, none⟩), .pointer (some ⟨bm, 0, none⟩)] 102)).size (.cells #[.int .u16 y, .int .u16 x] 26)
  have hs : S.Sl S.eU 1 ((W.alloc (.cells #[.int .i64 op, .int .u16 x, .int .u16 y, .int .u16 z, .int .u16 s, .pointer (some ⟨bd, 0, none⟩), .pointer (some ⟨br, 0, none⟩), .pointer (some ⟨bm, 0, none⟩)] 102)).alloc (.cells #[.int .u16 y, .int .u16 x] 26)) (some ⟨W.heap.size + 1, 0, none⟩) [y, x] := sl_block S.hU _ _ 26 _ (heap_alloc2_new W _ _)
  have hp := put_any op x y z s bd br bm D [y, x] (some ⟨W.heap.size + 1, 0, none⟩) 2 _ (h.d.below hb) hs hl
  simp only [List.length_cons, List.length_nil, Nat.reduceAdd] at hp
  clear hb hs
  go_enter Tryz.func94, Tryz.ntmps94
  go_wp2_with fail
  refine hp.mono ?_
  rintro e w1 ⟨rfl, h1, h2⟩
  go_wp2
  go_end0
  exact ⟨rfl, h.put h1 (at_alloc _ (at_alloc _ h2))⟩
theorem do_over (op x y z s : Int) (bd br bm : Nat) (F : Nat → Prop) (D : List Int) (R : List (Int × Int)) (m : M.MS) (W : World) (h : PS W bd br bm F D R m) (hl : D.length + 3 ≤ 256) :
    Calls Tryz.prog 95 #[.agg #[.int .i64 op, .int .u16 x, .int .u16 y, .int .u16 z, .int .u16 s, .pointer (some ⟨bd, 0, none⟩), .pointer (some ⟨br, 0, none⟩), .pointer (some ⟨bm, 0, none⟩)]] W fun e W' => e = .returned (.tuple #[]) ∧ PD W W' bd br bm F (D ++ [x, y, x]) (R) (m) := by
  have hb := (bel_alloc W (.cells #[.int .i64 op, .int .u16 x, .int .u16 y, .int .u16 z, .int .u16 s, .pointer (some ⟨bd, 0, none⟩), .pointer (some ⟨br, 0, none⟩), .pointer (some ⟨bm, 0, none⟩)] 102)).alloc (bel_alloc W (.cells #[.int .i64 op, .int .u16 x, .int .u16 y, .int .u16 z, .int .u16 s, .pointer (some ⟨bd, 0, none⟩), .pointer (some ⟨br, 0, none⟩), .pointer (some ⟨bm, 0, none⟩)] 102)).size (.cells #[.int .u16 x, .int .u16 y, .int .u16 x] 26)
  have hs : S.Sl S.eU 1 ((W.alloc (.cells #[.int .i64 op, .int .u16 x, .int .u16 y, .int .u16 z, .int .u16 s, .pointer (some ⟨bd, 0, none⟩), .pointer (some ⟨br, 0, none⟩), .pointer (some ⟨bm, 0, none⟩)] 102)).alloc (.cells #[.int .u16 x, .int .u16 y, .int .u16 x] 26)) (some ⟨W.heap.size + 1, 0, none⟩) [x, y, x] := sl_block S.hU _ _ 26 _ (heap_alloc2_new W _ _)
  have hp := put_any op x y z s bd br bm D [x, y, x] (some ⟨W.heap.size + 1, 0, none⟩) 3 _ (h.d.below hb) hs hl
  simp only [List.length_cons, List.length_nil, Nat.reduceAdd] at hp
  clear hb hs
  go_enter Tryz.func95, Tryz.ntmps95
  go_wp2_with fail
  refine hp.mono ?_
  rintro e w1 ⟨rfl, h1, h2⟩
  go_wp2
  go_end0
  exact ⟨rfl, h.put h1 (at_alloc _ (at_alloc _ h2))⟩
theorem do_rot (op x y z s : Int) (bd br bm : Nat) (F : Nat → Prop) (D : List Int) (R : List (Int × Int)) (m : M.MS) (W : World) (h : PS W bd br bm F D R m) (hl : D.length + 3 ≤ 256) :
    Calls Tryz.prog 96 #[.agg #[.int .i64 op, .int .u16 x, .int .u16 y, .int .u16 z, .int .u16 s, .pointer (some ⟨bd, 0, none⟩), .pointer (some ⟨br, 0, none⟩), .pointer (some ⟨bm, 0, none⟩)]] W fun e W' => e = .returned (.tuple #[]) ∧ PD W W' bd br bm F (D ++ [y, z, x]) (R) (m) := by
  have hb := (bel_alloc W (.cells #[.int .i64 op, .int .u16 x, .int .u16 y, .int .u16 z, .int .u16 s, .pointer (some ⟨bd, 0, none⟩), .pointer (some ⟨br, 0, none⟩), .pointer (some ⟨bm, 0, none⟩)] 102)).alloc (bel_alloc W (.cells #[.int .i64 op, .int .u16 x, .int .u16 y, .int .u16 z, .int .u16 s, .pointer (some ⟨bd, 0, none⟩), .pointer (some ⟨br, 0, none⟩), .pointer (some ⟨bm, 0, none⟩)] 102)).size (.cells #[.int .u16 y, .int .u16 z, .int .u16 x] 26)
  have hs : S.Sl S.eU 1 ((W.alloc (.cells #[.int .i64 op, .int .u16 x, .int .u16 y, .int .u16 z, .int .u16 s, .pointer (some ⟨bd, 0, none⟩), .pointer (some ⟨br, 0, none⟩), .pointer (some ⟨bm, 0, none⟩)] 102)).alloc (.cells #[.int .u16 y, .int .u16 z, .int .u16 x] 26)) (some ⟨W.heap.size + 1, 0, none⟩) [y, z, x] := sl_block S.hU _ _ 26 _ (heap_alloc2_new W _ _)
  have hp := put_any op x y z s bd br bm D [y, z, x] (some ⟨W.heap.size + 1, 0, none⟩) 3 _ (h.d.below hb) hs hl
  simp only [List.length_cons, List.length_nil, Nat.reduceAdd] at hp
  clear hb hs
  go_enter Tryz.func96, Tryz.ntmps96
  go_wp2_with fail
  refine hp.mono ?_
  rintro e w1 ⟨rfl, h1, h2⟩
  go_wp2
  go_end0
  exact ⟨rfl, h.put h1 (at_alloc _ (at_alloc _ h2))⟩
theorem do_nip (op x y z s : Int) (bd br bm : Nat) (F : Nat → Prop) (D : List Int) (R : List (Int × Int)) (m : M.MS) (W : World) (h : PS W bd br bm F D R m) (hl : D.length + 1 ≤ 256) :
    Calls Tryz.prog 97 #[.agg #[.int .i64 op, .int .u16 x, .int .u16 y, .int .u16 z, .int .u16 s, .pointer (some ⟨bd, 0, none⟩), .pointer (some ⟨br, 0, none⟩), .pointer (some ⟨bm, 0, none⟩)]] W fun e W' => e = .returned (.tuple #[]) ∧ PD W W' bd br bm F (D ++ [y]) (R) (m) := by
  have hb := (bel_alloc W (.cells #[.int .i64 op, .int .u16 x, .int .u16 y, .int .u16 z, .int .u16 s, .pointer (some ⟨bd, 0, none⟩), .pointer (some ⟨br, 0, none⟩), .pointer (some ⟨bm, 0, none⟩)] 102)).alloc (bel_alloc W (.cells #[.int .i64 op, .int .u16 x, .int .u16 y, .int .u16 z, .int .u16 s, .pointer (some ⟨bd, 0, none⟩), .pointer (some ⟨br, 0, none⟩), .pointer (some ⟨bm, 0, none⟩)] 102)).size (.cells #[.int .u16 y] 26)
  have hs : S.Sl S.eU 1 ((W.alloc (.cells #[.int .i64 op, .int .u16 x, .int .u16 y, .int .u16 z, .int .u16 s, .pointer (some ⟨bd, 0, none⟩), .pointer (some ⟨br, 0, none⟩), .pointer (some ⟨bm, 0, none⟩)] 102)).alloc (.cells #[.int .u16 y] 26)) (some ⟨W.heap.size + 1, 0, none⟩) [y] := sl_block S.hU _ _ 26 _ (heap_alloc2_new W _ _)
  have hp := put_any op x y z s bd br bm D [y] (some ⟨W.heap.size + 1, 0, none⟩) 1 _ (h.d.below hb) hs hl
  simp only [List.length_cons, List.length_nil, Nat.reduceAdd] at hp
  clear hb hs
  go_enter Tryz.func97, Tryz.ntmps97
  go_wp2_with fail
  refine hp.mono ?_
  rintro e w1 ⟨rfl, h1, h2⟩
  go_wp2
  go_end0
  exact ⟨rfl, h.put h1 (at_alloc _ (at_alloc _ h2))⟩
theorem do_tuck (op x y z s : Int) (bd br bm : Nat) (F : Nat → Prop) (D : List Int) (R : List (Int × Int)) (m : M.MS) (W : World) (h : PS W bd br bm F D R m) (hl : D.length + 3 ≤ 256) :
    Calls Tryz.prog 98 #[.agg #[.int .i64 op, .int .u16 x, .int .u16 y, .int .u16 z, .int .u16 s, .pointer (some ⟨bd, 0, none⟩), .pointer (some ⟨br, 0, none⟩), .pointer (some ⟨bm, 0, none⟩)]] W fun e W' => e = .returned (.tuple #[]) ∧ PD W W' bd br bm F (D ++ [y, x, y]) (R) (m) := by
  have hb := (bel_alloc W (.cells #[.int .i64 op, .int .u16 x, .int .u16 y, .int .u16 z, .int .u16 s, .pointer (some ⟨bd, 0, none⟩), .pointer (some ⟨br, 0, none⟩), .pointer (some ⟨bm, 0, none⟩)] 102)).alloc (bel_alloc W (.cells #[.int .i64 op, .int .u16 x, .int .u16 y, .int .u16 z, .int .u16 s, .pointer (some ⟨bd, 0, none⟩), .pointer (some ⟨br, 0, none⟩), .pointer (some ⟨bm, 0, none⟩)] 102)).size (.cells #[.int .u16 y, .int .u16 x, .int .u16 y] 26)
  have hs : S.Sl S.eU 1 ((W.alloc (.cells #[.int .i64 op, .int .u16 x, .int .u16 y, .int .u16 z, .int .u16 s, .pointer (some ⟨bd, 0, none⟩), .pointer (some ⟨br, 0, none⟩), .pointer (some ⟨bm, 0, none⟩)] 102)).alloc (.cells #[.int .u16 y, .int .u16 x, .int .u16 y] 26)) (some ⟨W.heap.size + 1, 0, none⟩) [y, x, y] := sl_block S.hU _ _ 26 _ (heap_alloc2_new W _ _)
  have hp := put_any op x y z s bd br bm D [y, x, y] (some ⟨W.heap.size + 1, 0, none⟩) 3 _ (h.d.below hb) hs hl
  simp only [List.length_cons, List.length_nil, Nat.reduceAdd] at hp
  clear hb hs
  go_enter Tryz.func98, Tryz.ntmps98
  go_wp2_with fail
  refine hp.mono ?_
  rintro e w1 ⟨rfl, h1, h2⟩
  go_wp2
  go_end0
  exact ⟨rfl, h.put h1 (at_alloc _ (at_alloc _ h2))⟩
theorem do_dup2 (op x y z s : Int) (bd br bm : Nat) (F : Nat → Prop) (D : List Int) (R : List (Int × Int)) (m : M.MS) (W : World) (h : PS W bd br bm F D R m) (hl : D.length + 4 ≤ 256) :
    Calls Tryz.prog 99 #[.agg #[.int .i64 op, .int .u16 x, .int .u16 y, .int .u16 z, .int .u16 s, .pointer (some ⟨bd, 0, none⟩), .pointer (some ⟨br, 0, none⟩), .pointer (some ⟨bm, 0, none⟩)]] W fun e W' => e = .returned (.tuple #[]) ∧ PD W W' bd br bm F (D ++ [x, y, x, y]) (R) (m) := by
  have hb := (bel_alloc W (.cells #[.int .i64 op, .int .u16 x, .int .u16 y, .int .u16 z, .int .u16 s, .pointer (some ⟨bd, 0, none⟩), .pointer (some ⟨br, 0, none⟩), .pointer (some ⟨bm, 0, none⟩)] 102)).alloc (bel_alloc W (.cells #[.int .i64 op, .int .u16 x, .int .u16 y, .int .u16 z, .int .u16 s, .pointer (some ⟨bd, 0, none⟩), .pointer (some ⟨br, 0, none⟩), .pointer (some ⟨bm, 0, none⟩)] 102)).size (.cells #[.int .u16 x, .int .u16 y, .int .u16 x, .int .u16 y] 26)
  have hs : S.Sl S.eU 1 ((W.alloc (.cells #[.int .i64 op, .int .u16 x, .int .u16 y, .int .u16 z, .int .u16 s, .pointer (some ⟨bd, 0, none⟩), .pointer (some ⟨br, 0, none⟩), .pointer (some ⟨bm, 0, none⟩)] 102)).alloc (.cells #[.int .u16 x, .int .u16 y, .int .u16 x, .int .u16 y] 26)) (some ⟨W.heap.size + 1, 0, none⟩) [x, y, x, y] := sl_block S.hU _ _ 26 _ (heap_alloc2_new W _ _)
  have hp := put_any op x y z s bd br bm D [x, y, x, y] (some ⟨W.heap.size + 1, 0, none⟩) 4 _ (h.d.below hb) hs hl
  simp only [List.length_cons, List.length_nil, Nat.reduceAdd] at hp
  clear hb hs
  go_enter Tryz.func99, Tryz.ntmps99
  go_wp2_with fail
  refine hp.mono ?_
  rintro e w1 ⟨rfl, h1, h2⟩
  go_wp2
  go_end0
  exact ⟨rfl, h.put h1 (at_alloc _ (at_alloc _ h2))⟩
theorem do_peek (op x y z s : Int) (bd br bm : Nat) (F : Nat → Prop) (D : List Int) (R : List (Int × Int)) (m : M.MS) (W : World) (h : PS W bd br bm F D R m) (hl : D.length + 1 ≤ 256) :
    Calls Tryz.prog 130 #[.agg #[.int .i64 op, .int .u16 x, .int .u16 y, .int .u16 z, .int .u16 s, .pointer (some ⟨bd, 0, none⟩), .pointer (some ⟨br, 0, none⟩), .pointer (some ⟨bm, 0, none⟩)]] W fun e W' => e = .returned (.tuple #[]) ∧ PD W W' bd br bm F (D ++ [s]) (R) (m) := by
  have hb := (bel_alloc W (.cells #[.int .i64 op, .int .u16 x, .int .u16 y, .int .u16 z, .int .u16 s, .pointer (some ⟨bd, 0, none⟩), .pointer (some ⟨br, 0, none⟩), .pointer (some ⟨bm, 0, none⟩)] 102)).alloc (bel_alloc W (.cells #[.int .i64 op, .int .u16 x, .int .u16 y, .int .u16 z, .int .u16 s, .pointer (some ⟨bd, 0, none⟩), .pointer (some ⟨br, 0, none⟩), .pointer (some ⟨bm, 0, none⟩)] 102)).size (.cells #[.int .u16 s] 26)
  have hs : S.Sl S.eU 1 ((W.alloc (.cells #[.int .i64 op, .int .u16 x, .int .u16 y, .int .u16 z, .int .u16 s, .pointer (some ⟨bd, 0, none⟩), .pointer (some ⟨br, 0, none⟩), .pointer (some ⟨bm, 0, none⟩)] 102)).alloc (.cells #[.int .u16 s] 26)) (some ⟨W.heap.size + 1, 0, none⟩) [s] := sl_block S.hU _ _ 26 _ (heap_alloc2_new W _ _)
  have hp := put_any op x y z s bd br bm D [s] (some ⟨W.heap.size + 1, 0, none⟩) 1 _ (h.d.below hb) hs hl
  simp only [List.length_cons, List.length_nil, Nat.reduceAdd] at hp
  clear hb hs
  go_enter Tryz.func130, Tryz.ntmps130
  go_wp2_with fail
  refine hp.mono ?_
  rintro e w1 ⟨rfl, h1, h2⟩
  go_wp2
  go_end0
  exact ⟨rfl, h.put h1 (at_alloc _ (at_alloc _ h2))⟩
theorem do_do (op x y z s : Int) (bd br bm : Nat) (F : Nat → Prop) (D : List Int) (R : List (Int × Int)) (m : M.MS) (W : World) (h : PS W bd br bm F D R m) (hl : R.length + 2 ≤ 128) :
    Calls Tryz.prog 88 #[.agg #[.int .i64 op, .int .u16 x, .int .u16 y, .int .u16 z, .int .u16 s, .pointer (some ⟨bd, 0, none⟩), .pointer (some ⟨br, 0, none⟩), .pointer (some ⟨bm, 0, none⟩)]] W fun e W' => e = .returned (.tuple #[]) ∧ PD W W' bd br bm F (D) (R ++ [(2, x), (3, y)]) (m) := by
  have hb := (bel_alloc W (.cells #[.int .i64 op, .int .u16 x, .int .u16 y, .int .u16 z, .int .u16 s, .pointer (some ⟨bd, 0, none⟩), .pointer (some ⟨br, 0, none⟩), .pointer (some ⟨bm, 0, none⟩)] 102)).alloc (bel_alloc W (.cells #[.int .i64 op, .int .u16 x, .int .u16 y, .int .u16 z, .int .u16 s, .pointer (some ⟨bd, 0, none⟩), .pointer (some ⟨br, 0, none⟩), .pointer (some ⟨bm, 0, none⟩)] 102)).size (.cells #[.int .i64 2, .int .u16 x, .int .i64 3, .int .u16 y] 44)
  have hs : S.Sl S.eK 2 ((W.alloc (.cells #[.int .i64 op, .int .u16 x, .int .u16 y, .int .u16 z, .int .u16 s, .pointer (some ⟨bd, 0, none⟩), .pointer (some ⟨br, 0, none⟩), .pointer (some ⟨bm, 0, none⟩)] 102)).alloc (.cells #[.int .i64 2, .int .u16 x, .int .i64 3, .int .u16 y] 44)) (some ⟨W.heap.size + 1, 0, none⟩) [(2, x), (3, y)] := sl_block S.hK _ _ 44 _ (heap_alloc2_new W _ _)
  have hp := save_any op x y z s bd br bm R [(2, x), (3, y)] (some ⟨W.heap.size + 1, 0, none⟩) 2 _ (h.r.below hb) hs hl
  simp only [List.length_cons, List.length_nil, Nat.reduceAdd] at hp
  clear hb hs
  go_enter Tryz.func88, Tryz.ntmps88
  go_wp2_with fail
  refine hp.mono ?_
  rintro e w1 ⟨rfl, h1, h2⟩
  go_wp2
  go_end0
  exact ⟨rfl, h.save h1 (at_alloc _ (at_alloc _ h2))⟩
theorem do_toR (op x y z s : Int) (bd br bm : Nat) (F : Nat → Prop) (D : List Int) (R : List (Int × Int)) (m : M.MS) (W : World) (h : PS W bd br bm F D R m) (hl : R.length + 1 ≤ 128) :
    Calls Tryz.prog 111 #[.agg #[.int .i64 op, .int .u16 x, .int .u16 y, .int .u16 z, .int .u16 s, .pointer (some ⟨bd, 0, none⟩), .pointer (some ⟨br, 0, none⟩), .pointer (some ⟨bm, 0, none⟩)]] W fun e W' => e = .returned (.tuple #[]) ∧ PD W W' bd br bm F (D) (R ++ [(4, x)]) (m) := by
  have hb := (bel_alloc W (.cells #[.int .i64 op, .int .u16 x, .int .u16 y, .int .u16 z, .int .u16 s, .pointer (some ⟨bd, 0, none⟩), .pointer (some ⟨br, 0, none⟩), .pointer (some ⟨bm, 0, none⟩)] 102)).alloc (bel_alloc W (.cells #[.int .i64 op, .int .u16 x, .int .u16 y, .int .u16 z, .int .u16 s, .pointer (some ⟨bd, 0, none⟩), .pointer (some ⟨br, 0, none⟩), .pointer (some ⟨bm, 0, none⟩)] 102)).size (.cells #[.int .i64 4, .int .u16 x] 44)
  have hs : S.Sl S.eK 2 ((W.alloc (.cells #[.int .i64 op, .int .u16 x, .int .u16 y, .int .u16 z, .int .u16 s, .pointer (some ⟨bd, 0, none⟩), .pointer (some ⟨br, 0, none⟩), .pointer (some ⟨bm, 0, none⟩)] 102)).alloc (.cells #[.int .i64 4, .int .u16 x] 44)) (some ⟨W.heap.size + 1, 0, none⟩) [(4, x)] := sl_block S.hK _ _ 44 _ (heap_alloc2_new W _ _)
  have hp := save_any op x y z s bd br bm R [(4, x)] (some ⟨W.heap.size + 1, 0, none⟩) 1 _ (h.r.below hb) hs hl
  simp only [List.length_cons, List.length_nil, Nat.reduceAdd] at hp
  clear hb hs
  go_enter Tryz.func111, Tryz.ntmps111
  go_wp2_with fail
  refine hp.mono ?_
  rintro e w1 ⟨rfl, h1, h2⟩
  go_wp2
  go_end0
  exact ⟨rfl, h.save h1 (at_alloc _ (at_alloc _ h2))⟩
theorem do_un (op x y z s : Int) (bd br bm : Nat) (F : Nat → Prop) (D : List Int) (R : List (Int × Int)) (m : M.MS) (W : World) (h : PS W bd br bm F D R m) (hx : C.C x) (hl : D.length + 1 ≤ 256) :
    Calls Tryz.prog 126 #[.agg #[.int .i64 op, .int .u16 x, .int .u16 y, .int .u16 z, .int .u16 s, .pointer (some ⟨bd, 0, none⟩), .pointer (some ⟨br, 0, none⟩), .pointer (some ⟨bm, 0, none⟩)]] W fun e W' => e = .returned (.tuple #[]) ∧ PD W W' bd br bm F (D ++ [C.un op x]) (R) (m) := by
  have hn := C.unary_any op x hx (W.alloc (.cells #[.int .i64 op, .int .u16 x, .int .u16 y, .int .u16 z, .int .u16 s, .pointer (some ⟨bd, 0, none⟩), .pointer (some ⟨br, 0, none⟩), .pointer (some ⟨bm, 0, none⟩)] 102))
  generalize C.un op x = v at *
  have hb := (bel_alloc W (.cells #[.int .i64 op, .int .u16 x, .int .u16 y, .int .u16 z, .int .u16 s, .pointer (some ⟨bd, 0, none⟩), .pointer (some ⟨br, 0, none⟩), .pointer (some ⟨bm, 0, none⟩)] 102)).alloc (bel_alloc W (.cells #[.int .i64 op, .int .u16 x, .int .u16 y, .int .u16 z, .int .u16 s, .pointer (some ⟨bd, 0, none⟩), .pointer (some ⟨br, 0, none⟩), .pointer (some ⟨bm, 0, none⟩)] 102)).size (.cells #[.int .u16 v] 26)
  have hs : S.Sl S.eU 1 ((W.alloc (.cells #[.int .i64 op, .int .u16 x, .int .u16 y, .int .u16 z, .int .u16 s, .pointer (some ⟨bd, 0, none⟩), .pointer (some ⟨br, 0, none⟩), .pointer (some ⟨bm, 0, none⟩)] 102)).alloc (.cells #[.int .u16 v] 26)) (some ⟨W.heap.size + 1, 0, none⟩) [v] := sl_block S.hU _ _ 26 _ (heap_alloc2_new W _ _)
  have hp := put_any op x y z s bd br bm D [v] (some ⟨W.heap.size + 1, 0, none⟩) 1 _ (h.d.below hb) hs hl
  simp only [List.length_cons, List.length_nil, Nat.reduceAdd] at hp
  clear hb hs
  go_enter Tryz.func126, Tryz.ntmps126
  go_wp2_with fail
  refine hn.mono ?_
  rintro e w1 ⟨rfl, rfl⟩
  go_wp2_with fail
  refine hp.mono ?_
  rintro e w1 ⟨rfl, h1, h2⟩
  go_wp2
  go_end0
  exact ⟨rfl, h.put h1 (at_alloc _ (at_alloc _ h2))⟩
theorem do_bin (op x y z s : Int) (bd br bm : Nat) (F : Nat → Prop) (D : List Int) (R : List (Int × Int)) (m : M.MS) (W : World) (h : PS W bd br bm F D R m) (hx : C.C x) (hy : C.C y) (hl : D.length + 1 ≤ 256) :
    Calls Tryz.prog 124 #[.agg #[.int .i64 op, .int .u16 x, .int .u16 y, .int .u16 z, .int .u16 s, .pointer (some ⟨bd, 0, none⟩), .pointer (some ⟨br, 0, none⟩), .pointer (some ⟨bm, 0, none⟩)]] W fun e W' => e = .returned (.tuple #[]) ∧ PD W W' bd br bm F (D ++ [C.bi op x y]) (R) (m) := by
  have hn := C.binary_any op x y hx hy (W.alloc (.cells #[.int .i64 op, .int .u16 x, .int .u16 y, .int .u16 z, .int .u16 s, .pointer (some ⟨bd, 0, none⟩), .pointer (some ⟨br, 0, none⟩), .pointer (some ⟨bm, 0, none⟩)] 102))
  generalize C.bi op x y = v at *
  have hb := (bel_alloc W (.cells #[.int .i64 op, .int .u16 x, .int .u16 y, .int .u16 z, .int .u16 s, .pointer (some ⟨bd, 0, none⟩), .pointer (some ⟨br, 0, none⟩), .pointer (some ⟨bm, 0, none⟩)] 102)).alloc (bel_alloc W (.cells #[.int .i64 op, .int .u16 x, .int .u16 y, .int .u16 z, .int .u16 s, .pointer (some ⟨bd, 0, none⟩), .pointer (some ⟨br, 0, none⟩), .pointer (some ⟨bm, 0, none⟩)] 102)).size (.cells #[.int .u16 v] 26)
  have hs : S.Sl S.eU 1 ((W.alloc (.cells #[.int .i64 op, .int .u16 x, .int .u16 y, .int .u16 z, .int .u16 s, .pointer (some ⟨bd, 0, none⟩), .pointer (some ⟨br, 0, none⟩), .pointer (some ⟨bm, 0, none⟩)] 102)).alloc (.cells #[.int .u16 v] 26)) (some ⟨W.heap.size + 1, 0, none⟩) [v] := sl_block S.hU _ _ 26 _ (heap_alloc2_new W _ _)
  have hp := put_any op x y z s bd br bm D [v] (some ⟨W.heap.size + 1, 0, none⟩) 1 _ (h.d.below hb) hs hl
  simp only [List.length_cons, List.length_nil, Nat.reduceAdd] at hp
  clear hb hs
  go_enter Tryz.func124, Tryz.ntmps124
  go_wp2_with fail
  refine hn.mono ?_
  rintro e w1 ⟨rfl, rfl⟩
  go_wp2_with fail
  refine hp.mono ?_
  rintro e w1 ⟨rfl, h1, h2⟩
  go_wp2
  go_end0
  exact ⟨rfl, h.put h1 (at_alloc _ (at_alloc _ h2))⟩
end Go.Proofs.YtgponcjjnjpfkaaGreat.P
