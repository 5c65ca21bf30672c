import Derived.Test.YtoemoiehjdmheaaGreatPDoes
namespace Go.Proofs.YtoemoiehjdmheaaGreat.P
open Go.RowKit
open Go.Proofs
set_option linter.unusedVariables false
set_option linter.unusedSimpArgs false
set_option maxHeartbeats 2000000
set_option maxRecDepth 100000
theorem do_nop (op x y z s : Int) (bd br bm : Nat) (F : Nat -> Prop) (D : List Int) (R : List (Int × Int)) (m : M.MS) (W : World) (h : PS W bd br bm F D R m)  :
  Calls Tryz.prog 98 #[.agg #[.int .i64 op, .int .u16 x, .int .u16 y, .int .u16 z, .int .u16 s, .pointer (some ⟨bd, 0, none⟩), .pointer (some ⟨br, 0, none⟩), .pointer (some ⟨bm, 0, none⟩)]] W fun e W' => e = .returned (.tuple #[]) /\ PD W W' bd br bm F (D) (R) (m) := by
 go_enter Tryz.func98, Tryz.ntmps98
 go_wp2
 go_end0
 exact ⟨rfl, h.same (bel_alloc W _)⟩
theorem do_drop (op x y z s : Int) (bd br bm : Nat) (F : Nat -> Prop) (D : List Int) (R : List (Int × Int)) (m : M.MS) (W : World) (h : PS W bd br bm F D R m)  :
  Calls Tryz.prog 101 #[.agg #[.int .i64 op, .int .u16 x, .int .u16 y, .int .u16 z, .int .u16 s, .pointer (some ⟨bd, 0, none⟩), .pointer (some ⟨br, 0, none⟩), .pointer (some ⟨bm, 0, none⟩)]] W fun e W' => e = .returned (.tuple #[]) /\ PD W W' bd br bm F (D) (R) (m) := by
 go_enter Tryz.func101, Tryz.ntmps101
 go_wp2
 go_end0
 exact ⟨rfl, h.same (bel_alloc W _)⟩
theorem do_drop2 (op x y z s : Int) (bd br bm : Nat) (F : Nat -> Prop) (D : List Int) (R : List (Int × Int)) (m : M.MS) (W : World) (h : PS W bd br bm F D R m)  :
  Calls Tryz.prog 108 #[.agg #[.int .i64 op, .int .u16 x, .int .u16 y, .int .u16 z, .int .u16 s, .pointer (some ⟨bd, 0, none⟩), .pointer (some ⟨br, 0, none⟩), .pointer (some ⟨bm, 0, none⟩)]] W fun e W' => e = .returned (.tuple #[]) /\ PD W W' bd br bm F (D) (R) (m) := by
 go_enter Tryz.func108, Tryz.ntmps108
 go_wp2
 go_end0
 exact ⟨rfl, h.same (bel_alloc W _)⟩
theorem do_dup (op x y z s : Int) (bd br bm : Nat) (F : Nat -> Prop) (D : List Int) (R : List (Int × Int)) (m : M.MS) (W : World) (h : PS W bd br bm F D R m) (hl : D.length + 2 <= 256) :
  Calls Tryz.prog 99 #[.agg #[.int .i64 op, .int .u16 x, .int .u16 y, .int .u16 z, .int .u16 s, .pointer (some ⟨bd, 0, none⟩), .pointer (some ⟨br, 0, none⟩), .pointer (some ⟨bm, 0, none⟩)]] W fun e W' => e = .returned (.tuple #[]) /\ PD W W' bd br bm F (D ++ [x, x]) (R) (m) := by
 have hb := (bel_alloc W (.cells #[.int .i64 op, .int .u16 x, .int .u16 y, .int .u16 z, .int .u16 s, .pointer (some ⟨bd, 0, none⟩), .pointer (some ⟨br, 0, none⟩), .pointer (some ⟨bm, 0, none⟩)] 208)).alloc (bel_alloc W (.cells #[.int .i64 op, .int .u16 x, .int .u16 y, .int .u16 z, .int .u16 s, .pointer (some ⟨bd, 0, none⟩), .pointer (some ⟨br, 0, none⟩), .pointer (some ⟨bm, 0, none⟩)] 208)).size (.cells #[.int .u16 x, .int .u16 x] 57)
 have hs : S.Sl S.eU 1 ((W.alloc (.cells #[.int .i64 op, .int .u16 x, .int .u16 y, .int .u16 z, .int .u16 s, .pointer (some ⟨bd, 0, none⟩), .pointer (some ⟨br, 0, none⟩), .pointer (some ⟨bm, 0, none⟩)] 208)).alloc (.cells #[.int .u16 x, .int .u16 x] 57)) (some ⟨W.heap.size + 1, 0, none⟩) [x, x] := sl_block S.hU _ _ 57 _ (heap_alloc2_new W _ _)
 have hp := put_any op x y z s bd br bm D [x, x] (some ⟨W.heap.size + 1, 0, none⟩) 2 _ (h.d.below hb) hs hl
 simp only [List.length_cons, List.length_nil, Nat.reduceAdd] at hp
 clear hb hs
 go_enter Tryz.func99, Tryz.ntmps99
 go_wp2_with fail
 refine hp.mono ?_
 rintro e w1 ⟨rfl, h1, h2⟩
 go_wp2
 go_end0
 exact ⟨rfl, h.put h1 (at_alloc _ (at_alloc _ h2))⟩
theorem do_swap (op x y z s : Int) (bd br bm : Nat) (F : Nat -> Prop) (D : List Int) (R : List (Int × Int)) (m : M.MS) (W : World) (h : PS W bd br bm F D R m) (hl : D.length + 2 <= 256) :
  Calls Tryz.prog 102 #[.agg #[.int .i64 op, .int .u16 x, .int .u16 y, .int .u16 z, .int .u16 s, .pointer (some ⟨bd, 0, none⟩), .pointer (some ⟨br, 0, none⟩), .pointer (some ⟨bm, 0, none⟩)]] W fun e W' => e = .returned (.tuple #[]) /\ PD W W' bd br bm F (D ++ [y, x]) (R) (m) := by
 have hb := (bel_alloc W (.cells #[.int .i64 op, .int .u16 x, .int .u16 y, .int .u16 z, .int .u16 s, .pointer (some ⟨bd, 0, none⟩), .pointer (some ⟨br, 0, none⟩), .pointer (some ⟨bm, 0, none⟩)] 208)).alloc (bel_alloc W (.cells #[.int .i64 op, .int .u16 x, .int .u16 y, .int .u16 z, .int .u16 s, .pointer (some ⟨bd, 0, none⟩), .pointer (some ⟨br, 0, none⟩), .pointer (some ⟨bm, 0, none⟩)] 208)).size (.cells #[.int .u16 y, .int .u16 x] 57)
 have hs : S.Sl S.eU 1 ((W.alloc (.cells #[.int .i64 op, .int .u16 x, .int .u16 y, .int .u16 z, .int .u16 s, .pointer (some ⟨bd, 0, none⟩), .pointer (some ⟨br, 0, none⟩), .pointer (some ⟨bm, 0, none⟩)] 208)).alloc (.cells #[.int .u16 y, .int .u16 x] 57)) (some ⟨W.heap.size + 1, 0, none⟩) [y, x] := sl_block S.hU _ _ 57 _ (heap_alloc2_new W _ _)
 have hp := put_any op x y z s bd br bm D [y, x] (some ⟨W.heap.size + 1, 0, none⟩) 2 _ (h.d.below hb) hs hl
 simp only [List.length_cons, List.length_nil, Nat.reduceAdd] at hp
 clear hb hs
 go_enter Tryz.func102, Tryz.ntmps102
 go_wp2_with fail
 refine hp.mono ?_
 rintro e w1 ⟨rfl, h1, h2⟩
 go_wp2
 go_end0
 exact ⟨rfl, h.put h1 (at_alloc _ (at_alloc _ h2))⟩
theorem do_over (op x y z s : Int) (bd br bm : Nat) (F : Nat -> Prop) (D : List Int) (R : List (Int × Int)) (m : M.MS) (W : World) (h : PS W bd br bm F D R m) (hl : D.length + 3 <= 256) :
  Calls Tryz.prog 103 #[.agg #[.int .i64 op, .int .u16 x, .int .u16 y, .int .u16 z, .int .u16 s, .pointer (some ⟨bd, 0, none⟩), .pointer (some ⟨br, 0, none⟩), .pointer (some ⟨bm, 0, none⟩)]] W fun e W' => e = .returned (.tuple #[]) /\ PD W W' bd br bm F (D ++ [x, y, x]) (R) (m) := by
 have hb := (bel_alloc W (.cells #[.int .i64 op, .int .u16 x, .int .u16 y, .int .u16 z, .int .u16 s, .pointer (some ⟨bd, 0, none⟩), .pointer (some ⟨br, 0, none⟩), .pointer (some ⟨bm, 0, none⟩)] 208)).alloc (bel_alloc W (.cells #[.int .i64 op, .int .u16 x, .int .u16 y, .int .u16 z, .int .u16 s, .pointer (some ⟨bd, 0, none⟩), .pointer (some ⟨br, 0, none⟩), .pointer (some ⟨bm, 0, none⟩)] 208)).size (.cells #[.int .u16 x, .int .u16 y, .int .u16 x] 57)
 have hs : S.Sl S.eU 1 ((W.alloc (.cells #[.int .i64 op, .int .u16 x, .int .u16 y, .int .u16 z, .int .u16 s, .pointer (some ⟨bd, 0, none⟩), .pointer (some ⟨br, 0, none⟩), .pointer (some ⟨bm, 0, none⟩)] 208)).alloc (.cells #[.int .u16 x, .int .u16 y, .int .u16 x] 57)) (some ⟨W.heap.size + 1, 0, none⟩) [x, y, x] := sl_block S.hU _ _ 57 _ (heap_alloc2_new W _ _)
 have hp := put_any op x y z s bd br bm D [x, y, x] (some ⟨W.heap.size + 1, 0, none⟩) 3 _ (h.d.below hb) hs hl
 simp only [List.length_cons, List.length_nil, Nat.reduceAdd] at hp
 clear hb hs
 go_enter Tryz.func103, Tryz.ntmps103
 go_wp2_with fail
 refine hp.mono ?_
 rintro e w1 ⟨rfl, h1, h2⟩
 go_wp2
 go_end0
 exact ⟨rfl, h.put h1 (at_alloc _ (at_alloc _ h2))⟩
theorem do_rot (op x y z s : Int) (bd br bm : Nat) (F : Nat -> Prop) (D : List Int) (R : List (Int × Int)) (m : M.MS) (W : World) (h : PS W bd br bm F D R m) (hl : D.length + 3 <= 256) :
  Calls Tryz.prog 104 #[.agg #[.int .i64 op, .int .u16 x, .int .u16 y, .int .u16 z, .int .u16 s, .pointer (some ⟨bd, 0, none⟩), .pointer (some ⟨br, 0, none⟩), .pointer (some ⟨bm, 0, none⟩)]] W fun e W' => e = .returned (.tuple #[]) /\ PD W W' bd br bm F (D ++ [y, z, x]) (R) (m) := by
 have hb := (bel_alloc W (.cells #[.int .i64 op, .int .u16 x, .int .u16 y, .int .u16 z, .int .u16 s, .pointer (some ⟨bd, 0, none⟩), .pointer (some ⟨br, 0, none⟩), .pointer (some ⟨bm, 0, none⟩)] 208)).alloc (bel_alloc W (.cells #[.int .i64 op, .int .u16 x, .int .u16 y, .int .u16 z, .int .u16 s, .pointer (some ⟨bd, 0, none⟩), .pointer (some ⟨br, 0, none⟩), .pointer (some ⟨bm, 0, none⟩)] 208)).size (.cells #[.int .u16 y, .int .u16 z, .int .u16 x] 57)
 have hs : S.Sl S.eU 1 ((W.alloc (.cells #[.int .i64 op, .int .u16 x, .int .u16 y, .int .u16 z, .int .u16 s, .pointer (some ⟨bd, 0, none⟩), .pointer (some ⟨br, 0, none⟩), .pointer (some ⟨bm, 0, none⟩)] 208)).alloc (.cells #[.int .u16 y, .int .u16 z, .int .u16 x] 57)) (some ⟨W.heap.size + 1, 0, none⟩) [y, z, x] := sl_block S.hU _ _ 57 _ (heap_alloc2_new W _ _)
 have hp := put_any op x y z s bd br bm D [y, z, x] (some ⟨W.heap.size + 1, 0, none⟩) 3 _ (h.d.below hb) hs hl
 simp only [List.length_cons, List.length_nil, Nat.reduceAdd] at hp
 clear hb hs
 go_enter Tryz.func104, Tryz.ntmps104
 go_wp2_with fail
 refine hp.mono ?_
 rintro e w1 ⟨rfl, h1, h2⟩
 go_wp2
 go_end0
 exact ⟨rfl, h.put h1 (at_alloc _ (at_alloc _ h2))⟩
theorem do_nip (op x y z s : Int) (bd br bm : Nat) (F : Nat -> Prop) (D : List Int) (R : List (Int × Int)) (m : M.MS) (W : World) (h : PS W bd br bm F D R m) (hl : D.length + 1 <= 256) :
  Calls Tryz.prog 105 #[.agg #[.int .i64 op, .int .u16 x, .int .u16 y, .int .u16 z, .int .u16 s, .pointer (some ⟨bd, 0, none⟩), .pointer (some ⟨br, 0, none⟩), .pointer (some ⟨bm, 0, none⟩)]] W fun e W' => e = .returned (.tuple #[]) /\ PD W W' bd br bm F (D ++ [y]) (R) (m) := by
 have hb := (bel_alloc W (.cells #[.int .i64 op, .int .u16 x, .int .u16 y, .int .u16 z, .int .u16 s, .pointer (some ⟨bd, 0, none⟩), .pointer (some ⟨br, 0, none⟩), .pointer (some ⟨bm, 0, none⟩)] 208)).alloc (bel_alloc W (.cells #[.int .i64 op, .int .u16 x, .int .u16 y, .int .u16 z, .int .u16 s, .pointer (some ⟨bd, 0, none⟩), .pointer (some ⟨br, 0, none⟩), .pointer (some ⟨bm, 0, none⟩)] 208)).size (.cells #[.int .u16 y] 57)
 have hs : S.Sl S.eU 1 ((W.alloc (.cells #[.int .i64 op, .int .u16 x, .int .u16 y, .int .u16 z, .int .u16 s, .pointer (some ⟨bd, 0, none⟩), .pointer (some ⟨br, 0, none⟩), .pointer (some ⟨bm, 0, none⟩)] 208)).alloc (.cells #[.int .u16 y] 57)) (some ⟨W.heap.size + 1, 0, none⟩) [y] := sl_block S.hU _ _ 57 _ (heap_alloc2_new W _ _)
 have hp := put_any op x y z s bd br bm D [y] (some ⟨W.heap.size + 1, 0, none⟩) 1 _ (h.d.below hb) hs hl
 simp only [List.length_cons, List.length_nil, Nat.reduceAdd] at hp
 clear hb hs
 go_enter Tryz.func105, Tryz.ntmps105
 go_wp2_with fail
 refine hp.mono ?_
 rintro e w1 ⟨rfl, h1, h2⟩
 go_wp2
 go_end0
 exact ⟨rfl, h.put h1 (at_alloc _ (at_alloc _ h2))⟩
theorem do_tuck (op x y z s : Int) (bd br bm : Nat) (F : Nat -> Prop) (D : List Int) (R : List (Int × Int)) (m : M.MS) (W : World) (h : PS W bd br bm F D R m) (hl : D.length + 3 <= 256) :
  Calls Tryz.prog 106 #[.agg #[.int .i64 op, .int .u16 x, .int .u16 y, .int .u16 z, .int .u16 s, .pointer (some ⟨bd, 0, none⟩), .pointer (some ⟨br, 0, none⟩), .pointer (some ⟨bm, 0, none⟩)]] W fun e W' => e = .returned (.tuple #[]) /\ PD W W' bd br bm F (D ++ [y, x, y]) (R) (m) := by
 have hb := (bel_alloc W (.cells #[.int .i64 op, .int .u16 x, .int .u16 y, .int .u16 z, .int .u16 s, .pointer (some ⟨bd, 0, none⟩), .pointer (some ⟨br, 0, none⟩), .pointer (some ⟨bm, 0, none⟩)] 208)).alloc (bel_alloc W (.cells #[.int .i64 op, .int .u16 x, .int .u16 y, .int .u16 z, .int .u16 s, .pointer (some ⟨bd, 0, none⟩), .pointer (some ⟨br, 0, none⟩), .pointer (some ⟨bm, 0, none⟩)] 208)).size (.cells #[.int .u16 y, .int .u16 x, .int .u16 y] 57)
 have hs : S.Sl S.eU 1 ((W.alloc (.cells #[.int .i64 op, .int .u16 x, .int .u16 y, .int .u16 z, .int .u16 s, .pointer (some ⟨bd, 0, none⟩), .pointer (some ⟨br, 0, none⟩), .pointer (some ⟨bm, 0, none⟩)] 208)).alloc (.cells #[.int .u16 y, .int .u16 x, .int .u16 y] 57)) (some ⟨W.heap.size + 1, 0, none⟩) [y, x, y] := sl_block S.hU _ _ 57 _ (heap_alloc2_new W _ _)
 have hp := put_any op x y z s bd br bm D [y, x, y] (some ⟨W.heap.size + 1, 0, none⟩) 3 _ (h.d.below hb) hs hl
 simp only [List.length_cons, List.length_nil, Nat.reduceAdd] at hp
 clear hb hs
 go_enter Tryz.func106, Tryz.ntmps106
 go_wp2_with fail
 refine hp.mono ?_
 rintro e w1 ⟨rfl, h1, h2⟩
 go_wp2
 go_end0
 exact ⟨rfl, h.put h1 (at_alloc _ (at_alloc _ h2))⟩
theorem do_dup2 (op x y z s : Int) (bd br bm : Nat) (F : Nat -> Prop) (D : List Int) (R : List (Int × Int)) (m : M.MS) (W : World) (h : PS W bd br bm F D R m) (hl : D.length + 4 <= 256) :
  Calls Tryz.prog 107 #[.agg #[.int .i64 op, .int .u16 x, .int .u16 y, .int .u16 z, .int .u16 s, .pointer (some ⟨bd, 0, none⟩), .pointer (some ⟨br, 0, none⟩), .pointer (some ⟨bm, 0, none⟩)]] W fun e W' => e = .returned (.tuple #[]) /\ PD W W' bd br bm F (D ++ [x, y, x, y]) (R) (m) := by
 have hb := (bel_alloc W (.cells #[.int .i64 op, .int .u16 x, .int .u16 y, .int .u16 z, .int .u16 s, .pointer (some ⟨bd, 0, none⟩), .pointer (some ⟨br, 0, none⟩), .pointer (some ⟨bm, 0, none⟩)] 208)).alloc (bel_alloc W (.cells #[.int .i64 op, .int .u16 x, .int .u16 y, .int .u16 z, .int .u16 s, .pointer (some ⟨bd, 0, none⟩), .pointer (some ⟨br, 0, none⟩), .pointer (some ⟨bm, 0, none⟩)] 208)).size (.cells #[.int .u16 x, .int .u16 y, .int .u16 x, .int .u16 y] 57)
 have hs : S.Sl S.eU 1 ((W.alloc (.cells #[.int .i64 op, .int .u16 x, .int .u16 y, .int .u16 z, .int .u16 s, .pointer (some ⟨bd, 0, none⟩), .pointer (some ⟨br, 0, none⟩), .pointer (some ⟨bm, 0, none⟩)] 208)).alloc (.cells #[.int .u16 x, .int .u16 y, .int .u16 x, .int .u16 y] 57)) (some ⟨W.heap.size + 1, 0, none⟩) [x, y, x, y] := sl_block S.hU _ _ 57 _ (heap_alloc2_new W _ _)
 have hp := put_any op x y z s bd br bm D [x, y, x, y] (some ⟨W.heap.size + 1, 0, none⟩) 4 _ (h.d.below hb) hs hl
 simp only [List.length_cons, List.length_nil, Nat.reduceAdd] at hp
 clear hb hs
 go_enter Tryz.func107, Tryz.ntmps107
 go_wp2_with fail
 refine hp.mono ?_
 rintro e w1 ⟨rfl, h1, h2⟩
 go_wp2
 go_end0
 exact ⟨rfl, h.put h1 (at_alloc _ (at_alloc _ h2))⟩
theorem do_peek (op x y z s : Int) (bd br bm : Nat) (F : Nat -> Prop) (D : List Int) (R : List (Int × Int)) (m : M.MS) (W : World) (h : PS W bd br bm F D R m) (hl : D.length + 1 <= 256) :
  Calls Tryz.prog 144 #[.agg #[.int .i64 op, .int .u16 x, .int .u16 y, .int .u16 z, .int .u16 s, .pointer (some ⟨bd, 0, none⟩), .pointer (some ⟨br, 0, none⟩), .pointer (some ⟨bm, 0, none⟩)]] W fun e W' => e = .returned (.tuple #[]) /\ PD W W' bd br bm F (D ++ [s]) (R) (m) := by
 have hb := (bel_alloc W (.cells #[.int .i64 op, .int .u16 x, .int .u16 y, .int .u16 z, .int .u16 s, .pointer (some ⟨bd, 0, none⟩), .pointer (some ⟨br, 0, none⟩), .pointer (some ⟨bm, 0, none⟩)] 208)).alloc (bel_alloc W (.cells #[.int .i64 op, .int .u16 x, .int .u16 y, .int .u16 z, .int .u16 s, .pointer (some ⟨bd, 0, none⟩), .pointer (some ⟨br, 0, none⟩), .pointer (some ⟨bm, 0, none⟩)] 208)).size (.cells #[.int .u16 s] 57)
 have hs : S.Sl S.eU 1 ((W.alloc (.cells #[.int .i64 op, .int .u16 x, .int .u16 y, .int .u16 z, .int .u16 s, .pointer (some ⟨bd, 0, none⟩), .pointer (some ⟨br, 0, none⟩), .pointer (some ⟨bm, 0, none⟩)] 208)).alloc (.cells #[.int .u16 s] 57)) (some ⟨W.heap.size + 1, 0, none⟩) [s] := sl_block S.hU _ _ 57 _ (heap_alloc2_new W _ _)
 have hp := put_any op x y z s bd br bm D [s] (some ⟨W.heap.size + 1, 0, none⟩) 1 _ (h.d.below hb) hs hl
 simp only [List.length_cons, List.length_nil, Nat.reduceAdd] at hp
 clear hb hs
 go_enter Tryz.func144, Tryz.ntmps144
 go_wp2_with fail
 refine hp.mono ?_
 rintro e w1 ⟨rfl, h1, h2⟩
 go_wp2
 go_end0
 exact ⟨rfl, h.put h1 (at_alloc _ (at_alloc _ h2))⟩
theorem do_do (op x y z s : Int) (bd br bm : Nat) (F : Nat -> Prop) (D : List Int) (R : List (Int × Int)) (m : M.MS) (W : World) (h : PS W bd br bm F D R m) (hl : R.length + 2 <= 128) :
  Calls Tryz.prog 96 #[.agg #[.int .i64 op, .int .u16 x, .int .u16 y, .int .u16 z, .int .u16 s, .pointer (some ⟨bd, 0, none⟩), .pointer (some ⟨br, 0, none⟩), .pointer (some ⟨bm, 0, none⟩)]] W fun e W' => e = .returned (.tuple #[]) /\ PD W W' bd br bm F (D) (R ++ [(2, x), (3, y)]) (m) := by
 have hb := (bel_alloc W (.cells #[.int .i64 op, .int .u16 x, .int .u16 y, .int .u16 z, .int .u16 s, .pointer (some ⟨bd, 0, none⟩), .pointer (some ⟨br, 0, none⟩), .pointer (some ⟨bm, 0, none⟩)] 208)).alloc (bel_alloc W (.cells #[.int .i64 op, .int .u16 x, .int .u16 y, .int .u16 z, .int .u16 s, .pointer (some ⟨bd, 0, none⟩), .pointer (some ⟨br, 0, none⟩), .pointer (some ⟨bm, 0, none⟩)] 208)).size (.cells #[.int .i64 2, .int .u16 x, .int .i64 3, .int .u16 y] 106)
 have hs : S.Sl S.eK 2 ((W.alloc (.cells #[.int .i64 op, .int .u16 x, .int .u16 y, .int .u16 z, .int .u16 s, .pointer (some ⟨bd, 0, none⟩), .pointer (some ⟨br, 0, none⟩), .pointer (some ⟨bm, 0, none⟩)] 208)).alloc (.cells #[.int .i64 2, .int .u16 x, .int .i64 3, .int .u16 y] 106)) (some ⟨W.heap.size + 1, 0, none⟩) [(2, x), (3, y)] := sl_block S.hK _ _ 106 _ (heap_alloc2_new W _ _)
 have hp := save_any op x y z s bd br bm R [(2, x), (3, y)] (some ⟨W.heap.size + 1, 0, none⟩) 2 _ (h.r.below hb) hs hl
 simp only [List.length_cons, List.length_nil, Nat.reduceAdd] at hp
 clear hb hs
 go_enter Tryz.func96, Tryz.ntmps96
 go_wp2_with fail
 refine hp.mono ?_
 rintro e w1 ⟨rfl, h1, h2⟩
 go_wp2
 go_end0
 exact ⟨rfl, h.save h1 (at_alloc _ (at_alloc _ h2))⟩
theorem do_toR (op x y z s : Int) (bd br bm : Nat) (F : Nat -> Prop) (D : List Int) (R : List (Int × Int)) (m : M.MS) (W : World) (h : PS W bd br bm F D R m) (hl : R.length + 1 <= 128) :
  Calls Tryz.prog 120 #[.agg #[.int .i64 op, .int .u16 x, .int .u16 y, .int .u16 z, .int .u16 s, .pointer (some ⟨bd, 0, none⟩), .pointer (some ⟨br, 0, none⟩), .pointer (some ⟨bm, 0, none⟩)]] W fun e W' => e = .returned (.tuple #[]) /\ PD W W' bd br bm F (D) (R ++ [(4, x)]) (m) := by
 have hb := (bel_alloc W (.cells #[.int .i64 op, .int .u16 x, .int .u16 y, .int .u16 z, .int .u16 s, .pointer (some ⟨bd, 0, none⟩), .pointer (some ⟨br, 0, none⟩), .pointer (some ⟨bm, 0, none⟩)] 208)).alloc (bel_alloc W (.cells #[.int .i64 op, .int .u16 x, .int .u16 y, .int .u16 z, .int .u16 s, .pointer (some ⟨bd, 0, none⟩), .pointer (some ⟨br, 0, none⟩), .pointer (some ⟨bm, 0, none⟩)] 208)).size (.cells #[.int .i64 4, .int .u16 x] 106)
 have hs : S.Sl S.eK 2 ((W.alloc (.cells #[.int .i64 op, .int .u16 x, .int .u16 y, .int .u16 z, .int .u16 s, .pointer (some ⟨bd, 0, none⟩), .pointer (some ⟨br, 0, none⟩), .pointer (some ⟨bm, 0, none⟩)] 208)).alloc (.cells #[.int .i64 4, .int .u16 x] 106)) (some ⟨W.heap.size + 1, 0, none⟩) [(4, x)] := sl_block S.hK _ _ 106 _ (heap_alloc2_new W _ _)
 have hp := save_any op x y z s bd br bm R [(4, x)] (some ⟨W.heap.size + 1, 0, none⟩) 1 _ (h.r.below hb) hs hl
 simp only [List.length_cons, List.length_nil, Nat.reduceAdd] at hp
 clear hb hs
 go_enter Tryz.func120, Tryz.ntmps120
 go_wp2_with fail
 refine hp.mono ?_
 rintro e w1 ⟨rfl, h1, h2⟩
 go_wp2
 go_end0
 exact ⟨rfl, h.save h1 (at_alloc _ (at_alloc _ h2))⟩
theorem do_un (op x y z s : Int) (bd br bm : Nat) (F : Nat -> Prop) (D : List Int) (R : List (Int × Int)) (m : M.MS) (W : World) (h : PS W bd br bm F D R m) (hx : C.C x) (hl : D.length + 1 <= 256) :
  Calls Tryz.prog 139 #[.agg #[.int .i64 op, .int .u16 x, .int .u16 y, .int .u16 z, .int .u16 s, .pointer (some ⟨bd, 0, none⟩), .pointer (some ⟨br, 0, none⟩), .pointer (some ⟨bm, 0, none⟩)]] W fun e W' => e = .returned (.tuple #[]) /\ PD W W' bd br bm F (D ++ [C.un op x]) (R) (m) := by
 have hn := C.unary_any op x hx (W.alloc (.cells #[.int .i64 op, .int .u16 x, .int .u16 y, .int .u16 z, .int .u16 s, .pointer (some ⟨bd, 0, none⟩), .pointer (some ⟨br, 0, none⟩), .pointer (some ⟨bm, 0, none⟩)] 208))
 generalize C.un op x = v at *
 have hb := (bel_alloc W (.cells #[.int .i64 op, .int .u16 x, .int .u16 y, .int .u16 z, .int .u16 s, .pointer (some ⟨bd, 0, none⟩), .pointer (some ⟨br, 0, none⟩), .pointer (some ⟨bm, 0, none⟩)] 208)).alloc (bel_alloc W (.cells #[.int .i64 op, .int .u16 x, .int .u16 y, .int .u16 z, .int .u16 s, .pointer (some ⟨bd, 0, none⟩), .pointer (some ⟨br, 0, none⟩), .pointer (some ⟨bm, 0, none⟩)] 208)).size (.cells #[.int .u16 v] 57)
 have hs : S.Sl S.eU 1 ((W.alloc (.cells #[.int .i64 op, .int .u16 x, .int .u16 y, .int .u16 z, .int .u16 s, .pointer (some ⟨bd, 0, none⟩), .pointer (some ⟨br, 0, none⟩), .pointer (some ⟨bm, 0, none⟩)] 208)).alloc (.cells #[.int .u16 v] 57)) (some ⟨W.heap.size + 1, 0, none⟩) [v] := sl_block S.hU _ _ 57 _ (heap_alloc2_new W _ _)
 have hp := put_any op x y z s bd br bm D [v] (some ⟨W.heap.size + 1, 0, none⟩) 1 _ (h.d.below hb) hs hl
 simp only [List.length_cons, List.length_nil, Nat.reduceAdd] at hp
 clear hb hs
 go_enter Tryz.func139, Tryz.ntmps139
 go_wp2_with fail
 refine hn.mono ?_
 rintro e w1 ⟨rfl, rfl⟩
 go_wp2_with fail
 refine hp.mono ?_
 rintro e w1 ⟨rfl, h1, h2⟩
 go_wp2
 go_end0
 exact ⟨rfl, h.put h1 (at_alloc _ (at_alloc _ h2))⟩
theorem do_bin (op x y z s : Int) (bd br bm : Nat) (F : Nat -> Prop) (D : List Int) (R : List (Int × Int)) (m : M.MS) (W : World) (h : PS W bd br bm F D R m) (hx : C.C x) (hy : C.C y) (hl : D.length + 1 <= 256) :
  Calls Tryz.prog 137 #[.agg #[.int .i64 op, .int .u16 x, .int .u16 y, .int .u16 z, .int .u16 s, .pointer (some ⟨bd, 0, none⟩), .pointer (some ⟨br, 0, none⟩), .pointer (some ⟨bm, 0, none⟩)]] W fun e W' => e = .returned (.tuple #[]) /\ PD W W' bd br bm F (D ++ [C.bi op x y]) (R) (m) := by
 have hn := C.binary_any op x y hx hy (W.alloc (.cells #[.int .i64 op, .int .u16 x, .int .u16 y, .int .u16 z, .int .u16 s, .pointer (some ⟨bd, 0, none⟩), .pointer (some ⟨br, 0, none⟩), .pointer (some ⟨bm, 0, none⟩)] 208))
 generalize C.bi op x y = v at *
 have hb := (bel_alloc W (.cells #[.int .i64 op, .int .u16 x, .int .u16 y, .int .u16 z, .int .u16 s, .pointer (some ⟨bd, 0, none⟩), .pointer (some ⟨br, 0, none⟩), .pointer (some ⟨bm, 0, none⟩)] 208)).alloc (bel_alloc W (.cells #[.int .i64 op, .int .u16 x, .int .u16 y, .int .u16 z, .int .u16 s, .pointer (some ⟨bd, 0, none⟩), .pointer (some ⟨br, 0, none⟩), .pointer (some ⟨bm, 0, none⟩)] 208)).size (.cells #[.int .u16 v] 57)
 have hs : S.Sl S.eU 1 ((W.alloc (.cells #[.int .i64 op, .int .u16 x, .int .u16 y, .int .u16 z, .int .u16 s, .pointer (some ⟨bd, 0, none⟩), .pointer (some ⟨br, 0, none⟩), .pointer (some ⟨bm, 0, none⟩)] 208)).alloc (.cells #[.int .u16 v] 57)) (some ⟨W.heap.size + 1, 0, none⟩) [v] := sl_block S.hU _ _ 57 _ (heap_alloc2_new W _ _)
 have hp := put_any op x y z s bd br bm D [v] (some ⟨W.heap.size + 1, 0, none⟩) 1 _ (h.d.below hb) hs hl
 simp only [List.length_cons, List.length_nil, Nat.reduceAdd] at hp
 clear hb hs
 go_enter Tryz.func137, Tryz.ntmps137
 go_wp2_with fail
 refine hn.mono ?_
 rintro e w1 ⟨rfl, rfl⟩
 go_wp2_with fail
 refine hp.mono ?_
 rintro e w1 ⟨rfl, h1, h2⟩
 go_wp2
 go_end0
 exact ⟨rfl, h.put h1 (at_alloc _ (at_alloc _ h2))⟩
end Go.Proofs.YtoemoiehjdmheaaGreat.P
