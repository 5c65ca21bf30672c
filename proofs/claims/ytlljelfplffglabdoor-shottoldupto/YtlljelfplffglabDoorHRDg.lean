import Derived.Test.YtlljelfplffglabDoorHRTon
import Derived.Test.YtlljelfplffglabDoorKRefW
/-! The reference's four and Plain. -/
namespace Go.Proofs.YtlljelfplffglabDoor.H
open Go.RowKit
open Go.Proofs
open Go.Proofs.YtlljelfplffglabDoor.K
set_option linter.unusedVariables false
set_option linter.unusedSimpArgs false
set_option maxHeartbeats 2000000
set_option maxRecDepth 100000
theorem four_any (z : Int) (w : World) : Calls Tryd.prog 44 #[.int .i64 z] w fun e w' => ∃ p c, e = .returned (.slice p 4 c) ∧ Row w' w.heap.size (.slice p 4 c) (w4 z) ∧ Below w.heap.size w w' := by
  have hc := low_any (lo z) (by have := lo_lt z; omega) 4 (by omega) w
  have hu := lo_u32 z
  have hx : IntKind.u64.wrap (lo z : Int) = (lo z : Int) := by have := lo_lt z; simp [IntKind.wrap, IntKind.bits, IntKind.signed]; omega
  have e4 : ((4 : Nat) : Int) = 4 := rfl
  rw [e4] at hc
  have HW := hid (show low 4 (lo z) = w4 z from rfl)
  generalize lo z = x at *
  go_enter Tryd.func44, Tryd.ntmps44
  go_wp2_with fail
  refine hc.mono ?_
  rintro e w1 ⟨u, rfl, hr, hb⟩
  obtain ⟨p, c, hv⟩ := own_val hr
  rw [HW.out] at hr hv
  rw [w4_len] at hv
  subst hv
  have HE := hid (And.intro hr hb)
  clear hr hb hc
  go_wp2
  go_ret
  exact ⟨p, c, rfl, HE.out.1, HE.out.2⟩
theorem sizeRO : (Tryd.prog.info? 50).map (·.size) = some 7 := by kernel_rfl
theorem plain_any (z0 z1 z2 z3 z4 : Int) (ps : Option Addr) (ns cs : Nat) (pt : Option Addr) (nt ct : Nat) (w : World) :
    Calls Tryd.prog 16 #[.agg #[.int .i64 z0, .int .i64 z1, .int .i64 z2, .int .i64 z3, .int .i64 z4, .slice ps ns cs, .slice pt nt ct]] w fun e w' => e = .returned (.agg #[.int .i64 z0, .int .i64 z1, .int .i64 z2, .int .i64 z3, .int .i64 z4, .slice ps ns cs, .slice pt nt ct]) ∧ Below w.heap.size w w' := by
  have hB : Below w.heap.size w ((w.alloc (.cells #[.int .i64 z0, .int .i64 z1, .int .i64 z2, .int .i64 z3, .int .i64 z4, .slice ps ns cs, .slice pt nt ct] 44)).alloc (.cells #[.int .i64 z0, .int .i64 z1, .int .i64 z2, .int .i64 z3, .int .i64 z4, .slice ps ns cs, .slice pt nt ct] 50)) := ((Below.refl _ w).alloc (Nat.le_refl _) _).alloc (by simp) _
  have HB := hid hB
  clear hB
  go_enter Tryd.func16, Tryd.ntmps16
  go_wp2
  have hn := heap_alloc2_new w (.cells #[.int .i64 z0, .int .i64 z1, .int .i64 z2, .int .i64 z3, .int .i64 z4, .slice ps ns cs, .slice pt nt ct] 44) (.cells #[.int .i64 z0, .int .i64 z1, .int .i64 z2, .int .i64 z3, .int .i64 z4, .slice ps ns cs, .slice pt nt ct] 50)
  exact bodyPost_ret (results_cell_row rfl _ _ (w.heap.size + 1) 50 _ (0, 0) _ rfl hn Tryd.underlying50 rfl sizeRO) rfl ⟨rfl, HB.out⟩
end Go.Proofs.YtlljelfplffglabDoor.H
