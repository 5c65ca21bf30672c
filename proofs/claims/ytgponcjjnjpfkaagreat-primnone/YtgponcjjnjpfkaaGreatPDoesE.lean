import Derived.Test.YtgponcjjnjpfkaaGreatPDoes
/-! pad. -/
namespace Go.Proofs.YtgponcjjnjpfkaaGreat.P
open Go.RowKit
open Go.Proofs
set_option linter.unusedVariables false
set_option linter.unusedSimpArgs false
set_option maxHeartbeats 2000000
set_option maxRecDepth 100000
theorem do_pad (op x y z s : Int) (bd br bm : Nat) (F : Nat → Prop) (D : List Int) (R : List (Int × Int)) (m : M.MS) (W : World) (h : PS W bd br bm F D R m)  (hl : D.length + 1 ≤ 256) :
    Calls Tryz.prog 117 #[.agg #[.int .i64 op, .int .u16 x, .int .u16 y, .int .u16 z, .int .u16 s, .pointer (some ⟨bd, 0, none⟩), .pointer (some ⟨br, 0, none⟩), .pointer (some ⟨bm, 0, none⟩)]] W fun e W' => e = .returned (.tuple #[]) ∧ PD W W' bd br bm F (D ++ [m.pad]) (R) (m) := by
  have hb := bel_alloc W (.cells #[.int .i64 op, .int .u16 x, .int .u16 y, .int .u16 z, .int .u16 s, .pointer (some ⟨bd, 0, none⟩), .pointer (some ⟨br, 0, none⟩), .pointer (some ⟨bm, 0, none⟩)] 102)
  have hk := h.below hb
  have hc := M.pad_any bm (W.alloc (.cells #[.int .i64 op, .int .u16 x, .int .u16 y, .int .u16 z, .int .u16 s, .pointer (some ⟨bd, 0, none⟩), .pointer (some ⟨br, 0, none⟩), .pointer (some ⟨bm, 0, none⟩)] 102)).drew (hk.m.kept fun i hi _ => rfl)
  have hp : ∀ q, Calls Tryz.prog 92 #[.agg #[.int .i64 op, .int .u16 x, .int .u16 y, .int .u16 z, .int .u16 s, .pointer (some ⟨bd, 0, none⟩), .pointer (some ⟨br, 0, none⟩), .pointer (some ⟨bm, 0, none⟩)], .slice (some ⟨W.heap.size + 1, 0, none⟩) 1 1] (((W.alloc (.cells #[.int .i64 op, .int .u16 x, .int .u16 y, .int .u16 z, .int .u16 s, .pointer (some ⟨bd, 0, none⟩), .pointer (some ⟨br, 0, none⟩), .pointer (some ⟨bm, 0, none⟩)] 102)).drewN q).alloc (.cells #[.int .u16 (m.pad)] 26)) fun e W' => e = .returned (.tuple #[]) ∧ S.HasD W' bd (D ++ [m.pad]) ∧ S.At bd W W' := fun q => by
    have b2 : Below W.heap.size W (((W.alloc (.cells #[.int .i64 op, .int .u16 x, .int .u16 y, .int .u16 z, .int .u16 s, .pointer (some ⟨bd, 0, none⟩), .pointer (some ⟨br, 0, none⟩), .pointer (some ⟨bm, 0, none⟩)] 102)).drewN q).alloc (.cells #[.int .u16 (m.pad)] 26)) := (⟨hb.os, hb.tape, hb.output, hb.size, hb.block⟩ : Below W.heap.size W ((W.alloc (.cells #[.int .i64 op, .int .u16 x, .int .u16 y, .int .u16 z, .int .u16 s, .pointer (some ⟨bd, 0, none⟩), .pointer (some ⟨br, 0, none⟩), .pointer (some ⟨bm, 0, none⟩)] 102)).drewN q)).alloc hb.size _
    have hs : S.Sl S.eU 1 (((W.alloc (.cells #[.int .i64 op, .int .u16 x, .int .u16 y, .int .u16 z, .int .u16 s, .pointer (some ⟨bd, 0, none⟩), .pointer (some ⟨br, 0, none⟩), .pointer (some ⟨bm, 0, none⟩)] 102)).drewN q).alloc (.cells #[.int .u16 (m.pad)] 26)) (some ⟨W.heap.size + 1, 0, none⟩) [m.pad] := sl_block S.hU _ _ 26 _ (by
      have := heap_alloc_new ((W.alloc (.cells #[.int .i64 op, .int .u16 x, .int .u16 y, .int .u16 z, .int .u16 s, .pointer (some ⟨bd, 0, none⟩), .pointer (some ⟨br, 0, none⟩), .pointer (some ⟨bm, 0, none⟩)] 102)).drewN q) (.cells #[.int .u16 (m.pad)] 26)
      have e : ((W.alloc (.cells #[.int .i64 op, .int .u16 x, .int .u16 y, .int .u16 z, .int .u16 s, .pointer (some ⟨bd, 0, none⟩), .pointer (some ⟨br, 0, none⟩), .pointer (some ⟨bm, 0, none⟩)] 102)).drewN q).heap.size = W.heap.size + 1 := by show (W.alloc _).heap.size = _; simp
      rw [e] at this; exact this)
    have hp := put_any op x y z s bd br bm D [m.pad] (some ⟨W.heap.size + 1, 0, none⟩) 1 _ (h.d.below b2) hs hl
    simp only [List.length_cons, List.length_nil, Nat.reduceAdd] at hp
    exact hp.mono fun e W' ⟨a, b, c⟩ => ⟨a, b, c.os.trans b2.os, c.tape.trans b2.tape, c.output.trans b2.output, Nat.le_trans b2.size c.size, fun k hk hn => (c.block k (Nat.lt_of_lt_of_le hk b2.size) hn).trans (b2.block k hk)⟩
  have hv : IntKind.u16.wrap m.pad = m.pad := by
    have := hk.m.wf.pad0; have := hk.m.wf.pad1
    simp [IntKind.wrap, IntKind.bits, IntKind.signed]; omega
  have H : Hid _ := S.hid h
  clear h hk hb
  go_enter Tryz.func117, Tryz.ntmps117
  go_wp2_with fail
  go_region_with (first | (go_at_call 118; refine hc.mono ?_; rintro e w1 ⟨rfl, q, rfl⟩) | (go_at_call 92; refine (hp _).mono ?_; rintro e w2 ⟨rfl, h1, h2⟩))
  all_goals go_wp2
  all_goals go_end0
  all_goals exact ⟨rfl, H.out.put h1 h2⟩
theorem do_fromR (op x y z s : Int) (bd br bm : Nat) (F : Nat → Prop) (D : List Int) (R : List (Int × Int)) (m : M.MS) (W : World) (h : PS W bd br bm F D R m) (R0 : List (Int × Int)) (v : Int) (hR : R = R0 ++ [(4, v)]) (hl : D.length + 1 ≤ 256) :
    Calls Tryz.prog 112 #[.agg #[.int .i64 op, .int .u16 x, .int .u16 y, .int .u16 z, .int .u16 s, .pointer (some ⟨bd, 0, none⟩), .pointer (some ⟨br, 0, none⟩), .pointer (some ⟨bm, 0, none⟩)]] W fun e W' => e = .returned (.tuple #[]) ∧ PD W W' bd br bm F (D ++ [s]) (R0) (m) := by
  subst hR
  have hb := bel_alloc W (.cells #[.int .i64 op, .int .u16 x, .int .u16 y, .int .u16 z, .int .u16 s, .pointer (some ⟨bd, 0, none⟩), .pointer (some ⟨br, 0, none⟩), .pointer (some ⟨bm, 0, none⟩)] 102)
  have hk := h.below hb
  have hc := S.rpop_ok br R0 4 v _ hk.r
  have hlt : W.heap.size ≠ br := by have := S.lt_of h.r.1; omega
  have hbx := heap_alloc_new W (.cells #[.int .i64 op, .int .u16 x, .int .u16 y, .int .u16 z, .int .u16 s, .pointer (some ⟨bd, 0, none⟩), .pointer (some ⟨br, 0, none⟩), .pointer (some ⟨bm, 0, none⟩)] 102)
  have hsz : (W.alloc (.cells #[.int .i64 op, .int .u16 x, .int .u16 y, .int .u16 z, .int .u16 s, .pointer (some ⟨bd, 0, none⟩), .pointer (some ⟨br, 0, none⟩), .pointer (some ⟨bm, 0, none⟩)] 102)).heap.size = W.heap.size + 1 := by simp
  have H := S.hid h
  have HK := S.hid hk
  have HB := S.hid hb
  have HX := S.hid hbx
  have HZ := S.hid hsz
  clear h hk hb hbx hsz
  go_enter Tryz.func112, Tryz.ntmps112
  go_wp2_with fail
  refine hc.mono ?_
  rintro e w1 ⟨rfl, h1, h2⟩
  have hPD := HK.out.save h1 h2
  have hbx : w1.heap[W.heap.size]? = _ := (h2.block _ (by rw [HZ.out]; omega) hlt).trans HX.out
  have c0 := S.cell_of w1 W.heap.size 0 _ 102 _ hbx rfl
  have c1 := S.cell_of w1 W.heap.size 1 _ 102 _ hbx rfl
  have c2 := S.cell_of w1 W.heap.size 2 _ 102 _ hbx rfl
  have c3 := S.cell_of w1 W.heap.size 3 _ 102 _ hbx rfl
  have c4 := S.cell_of w1 W.heap.size 4 _ 102 _ hbx rfl
  have c5 := S.cell_of w1 W.heap.size 5 _ 102 _ hbx rfl
  have c6 := S.cell_of w1 W.heap.size 6 _ 102 _ hbx rfl
  have c7 := S.cell_of w1 W.heap.size 7 _ 102 _ hbx rfl
  have b2 := bel_alloc w1 (.cells #[.int .u16 s] 26)
  have hs : S.Sl S.eU 1 (w1.alloc (.cells #[.int .u16 s] 26)) (some ⟨w1.heap.size, 0, none⟩) [s] := sl_block S.hU _ _ 26 _ (heap_alloc_new w1 _)
  have hp := put_any op x y z s bd br bm D [s] (some ⟨w1.heap.size, 0, none⟩) 1 _ (hPD.s.d.below b2) hs hl
  simp only [List.length_cons, List.length_nil, Nat.reduceAdd] at hp
  clear hbx
  go_wp2_with fail
  refine hp.mono ?_
  rintro e w2 ⟨rfl, h3, h4⟩
  go_wp2
  go_end0
  exact ⟨rfl, PD.ahead (S.lt_of H.out.d.1) (S.lt_of H.out.r.1) HB.out (hPD.trans (hPD.s.put h3 (at_alloc _ h4)))⟩
end Go.Proofs.YtgponcjjnjpfkaaGreat.P
