import Derived.Test.YtgponcjjnjpfkaaGreatPDoes
/-! What those that write the memory do. -/
namespace Go.Proofs.YtgponcjjnjpfkaaGreat.P
open Go.RowKit
open Go.Proofs
set_option linter.unusedVariables false
set_option linter.unusedSimpArgs false
set_option maxHeartbeats 2000000
set_option maxRecDepth 100000
theorem b8_conv (v : Int) : IntKind.u8.wrap v = M.bt (M.b8 v) := by rw [M.bt_b8]; simp [IntKind.wrap, IntKind.bits, IntKind.signed]
theorem do_store (op x y z s : Int) (bd br bm : Nat) (F : Nat → Prop) (D : List Int) (R : List (Int × Int)) (m : M.MS) (W : World) (h : PS W bd br bm F D R m) (hx : C.C x) (hy : C.C y)(ht : m.tones.length ≤ 999000) :
    Calls Tryz.prog 105 #[.agg #[.int .i64 op, .int .u16 x, .int .u16 y, .int .u16 z, .int .u16 s, .pointer (some ⟨bd, 0, none⟩), .pointer (some ⟨br, 0, none⟩), .pointer (some ⟨bm, 0, none⟩)]] W fun e W' => e = .returned (.tuple #[]) ∧ PD W W' bd br bm F (D) (R) (M.sc m y x) := by
  have hb := bel_alloc W (.cells #[.int .i64 op, .int .u16 x, .int .u16 y, .int .u16 z, .int .u16 s, .pointer (some ⟨bd, 0, none⟩), .pointer (some ⟨br, 0, none⟩), .pointer (some ⟨bm, 0, none⟩)] 102)
  have hk := h.below hb
  have hp := M.setCell_any bm y hy.1 hy.2 x hx.1 hx.2 _ hk.m (by omega)
  go_enter Tryz.func105, Tryz.ntmps105
  go_wp2_with fail
  refine hp.mono ?_
  rintro e w1 ⟨rfl, h1⟩
  go_wp2
  go_end0
  exact ⟨rfl, PD.ahead (S.lt_of h.d.1) (S.lt_of h.r.1) hb (hk.mem h1)⟩
theorem do_cstore (op x y z s : Int) (bd br bm : Nat) (F : Nat → Prop) (D : List Int) (R : List (Int × Int)) (m : M.MS) (W : World) (h : PS W bd br bm F D R m) (hx : C.C x) (hy : C.C y)(ht : m.tones.length ≤ 999000) :
    Calls Tryz.prog 109 #[.agg #[.int .i64 op, .int .u16 x, .int .u16 y, .int .u16 z, .int .u16 s, .pointer (some ⟨bd, 0, none⟩), .pointer (some ⟨br, 0, none⟩), .pointer (some ⟨bm, 0, none⟩)]] W fun e W' => e = .returned (.tuple #[]) ∧ PD W W' bd br bm F (D) (R) (M.st m y (M.b8 x)) := by
  have hb := bel_alloc W (.cells #[.int .i64 op, .int .u16 x, .int .u16 y, .int .u16 z, .int .u16 s, .pointer (some ⟨bd, 0, none⟩), .pointer (some ⟨br, 0, none⟩), .pointer (some ⟨bm, 0, none⟩)] 102)
  have hk := h.below hb
  have hv := b8_conv x
  have hp := M.store_any bm y hy.1 hy.2 (M.b8 x) _ hk.m (by omega)
  go_enter Tryz.func109, Tryz.ntmps109
  go_wp2_with fail
  refine hp.mono ?_
  rintro e w1 ⟨rfl, h1⟩
  go_wp2
  go_end0
  exact ⟨rfl, PD.ahead (S.lt_of h.d.1) (S.lt_of h.r.1) hb (hk.mem h1)⟩
theorem do_plot (op x y z s : Int) (bd br bm : Nat) (F : Nat → Prop) (D : List Int) (R : List (Int × Int)) (m : M.MS) (W : World) (h : PS W bd br bm F D R m) (hx : C.C x) (hy : C.C y)(ht : m.tones.length ≤ 999000) :
    Calls Tryz.prog 115 #[.agg #[.int .i64 op, .int .u16 x, .int .u16 y, .int .u16 z, .int .u16 s, .pointer (some ⟨bd, 0, none⟩), .pointer (some ⟨br, 0, none⟩), .pointer (some ⟨bm, 0, none⟩)]] W fun e W' => e = .returned (.tuple #[]) ∧ PD W W' bd br bm F (D) (R) (M.plt m x y z) := by
  have hb := bel_alloc W (.cells #[.int .i64 op, .int .u16 x, .int .u16 y, .int .u16 z, .int .u16 s, .pointer (some ⟨bd, 0, none⟩), .pointer (some ⟨br, 0, none⟩), .pointer (some ⟨bm, 0, none⟩)] 102)
  have hk := h.below hb
  have hp := M.plot_any bm x y z hx.1 hx.2 hy.1 hy.2 _ hk.m (by omega)
  go_enter Tryz.func115, Tryz.ntmps115
  go_wp2_with fail
  refine hp.mono ?_
  rintro e w1 ⟨rfl, h1⟩
  go_wp2
  go_end0
  exact ⟨rfl, PD.ahead (S.lt_of h.d.1) (S.lt_of h.r.1) hb (hk.mem h1)⟩
theorem do_tone (op x y z s : Int) (bd br bm : Nat) (F : Nat → Prop) (D : List Int) (R : List (Int × Int)) (m : M.MS) (W : World) (h : PS W bd br bm F D R m) (hx : C.C x) (hy : C.C y)(ht : m.tones.length ≤ 999000) :
    Calls Tryz.prog 119 #[.agg #[.int .i64 op, .int .u16 x, .int .u16 y, .int .u16 z, .int .u16 s, .pointer (some ⟨bd, 0, none⟩), .pointer (some ⟨br, 0, none⟩), .pointer (some ⟨bm, 0, none⟩)]] W fun e W' => e = .returned (.tuple #[]) ∧ PD W W' bd br bm F (D) (R) (M.st (M.sc m 65284 x) 65286 (M.b8 y)) := by
  have hb := bel_alloc W (.cells #[.int .i64 op, .int .u16 x, .int .u16 y, .int .u16 z, .int .u16 s, .pointer (some ⟨bd, 0, none⟩), .pointer (some ⟨br, 0, none⟩), .pointer (some ⟨bm, 0, none⟩)] 102)
  have hk := h.below hb
  have hv := b8_conv y
  have hp := M.play_any bm x hx.1 hx.2 (M.b8 y) _ hk.m (by omega)
  go_enter Tryz.func119, Tryz.ntmps119
  go_wp2_with fail
  refine hp.mono ?_
  rintro e w1 ⟨rfl, h1⟩
  go_wp2
  go_end0
  exact ⟨rfl, PD.ahead (S.lt_of h.d.1) (S.lt_of h.r.1) hb (hk.mem h1)⟩
theorem do_bank (op x y z s : Int) (bd br bm : Nat) (F : Nat → Prop) (D : List Int) (R : List (Int × Int)) (m : M.MS) (W : World) (h : PS W bd br bm F D R m) (hx : C.C x) (hy : C.C y)(ht : m.tones.length ≤ 999000) :
    Calls Tryz.prog 121 #[.agg #[.int .i64 op, .int .u16 x, .int .u16 y, .int .u16 z, .int .u16 s, .pointer (some ⟨bd, 0, none⟩), .pointer (some ⟨br, 0, none⟩), .pointer (some ⟨bm, 0, none⟩)]] W fun e W' => e = .returned (.tuple #[]) ∧ PD W W' bd br bm F (D) (R) (M.st m 65280 (M.b8 x)) := by
  have hb := bel_alloc W (.cells #[.int .i64 op, .int .u16 x, .int .u16 y, .int .u16 z, .int .u16 s, .pointer (some ⟨bd, 0, none⟩), .pointer (some ⟨br, 0, none⟩), .pointer (some ⟨bm, 0, none⟩)] 102)
  have hk := h.below hb
  have hp := M.choose_any bm x _ hk.m (by omega)
  go_enter Tryz.func121, Tryz.ntmps121
  go_wp2_with fail
  refine hp.mono ?_
  rintro e w1 ⟨rfl, h1⟩
  go_wp2
  go_end0
  exact ⟨rfl, PD.ahead (S.lt_of h.d.1) (S.lt_of h.r.1) hb (hk.mem h1)⟩
end Go.Proofs.YtgponcjjnjpfkaaGreat.P
