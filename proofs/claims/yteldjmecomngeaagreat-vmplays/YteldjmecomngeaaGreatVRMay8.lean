import Derived.Test.YteldjmecomngeaaGreatVCopy
import Derived.Test.YteldjmecomngeaaGreatVRxK
import Derived.Deep.DeepCutAuto
import Derived.Deep.RegionHeldLaw
import Derived.Deep.RegionHeld3
namespace Go.Proofs.YteldjmecomngeaaGreat.V
open Go.RowKit
open Go.Proofs
set_option linter.unusedVariables false
set_option linter.unusedSimpArgs false
set_option maxHeartbeats 4000000
set_option maxRecDepth 100000
def okRt (R : List (Int × Int)) : Prop := ∀ t ∈ R, 1 <= t.1 /\ t.1 <= 4
theorem rmay_yes (pc st fa : Int) (p q : Option Addr) (cd cr : Nat) (D : List Int) (R : List (Int × Int)) (w : World) (hs : okS st fa) (dl : D.length <= 256) (rl : R.length <= 128) (hk : okRt R) (h2 : S.Sl S.eK 2 w q R) :
  Calls Tryz.prog 73 #[.agg #[.int .u16 pc, .int .i64 st, .int .i64 fa, .slice p D.length cd, .slice q R.length cr]] w fun e w' => e = .returned (.bool true) /\ Below w.heap.size w w' := by
 obtain ⟨W, hW⟩ : ∃ W, w.alloc (.cells #[.int .u16 pc, .int .i64 st, .int .i64 fa, .slice p D.length cd, .slice q R.length cr] 55) = W := ⟨_, rfl⟩
 have hB : Below w.heap.size w W := by rw [<- hW]; exact (Below.refl _ w).alloc (Nat.le_refl _) _
 have n1 : W.heap[w.heap.size]? = some (.cells [.int .u16 pc, .int .i64 st, .int .i64 fa, .slice p D.length cd, .slice q R.length cr].toArray 55 (0, 0)) := by rw [<- hW]; exact heap_alloc_new w _
 have a1 := S.cell_of W _ 1 _ _ _ n1 rfl
 have a2 := S.cell_of W _ 2 _ _ _ n1 rfl
 have a3 := S.cell_of W _ 3 _ _ _ n1 rfl
 have a4 := S.cell_of W _ 4 _ _ _ n1 rfl
 have H0 := S.hid h2
 have HB := S.hid hB
 have HK := S.hid hk
 have s1 : decide (st < 1) = false := decide_eq_false (by unfold okS at hs; omega)
 have s2 : decide (3 < st) = false := decide_eq_false (by unfold okS at hs; omega)
 obtain ⟨n, hn⟩ : ∃ n, D.length = n := ⟨_, rfl⟩
 obtain ⟨m, hm⟩ : ∃ m, R.length = m := ⟨_, rfl⟩
 have HM := S.hid hm
 rw [hn] at dl a3
 rw [hm] at rl a4
 rw [hn, hm]
 have s3 : decide ((256 : Int) < (n : Int)) = false := decide_eq_false (by omega)
 have s4 : decide ((128 : Int) < (m : Int)) = false := decide_eq_false (by omega)
 rw [hn, hm] at hW
 have hf : st = 3 /\ (st == 3) = true /\ decide (fa < 1) = false /\ decide (7 < fa) = false /\ (st != 3) = false \/ (st == 3) = false /\ (st != 3) = true /\ (fa != 0) = false := by
  rcases hs with ⟨rfl, rfl⟩ | ⟨rfl, rfl⟩ | ⟨rfl, h1, h2⟩
  ·exact .inr ⟨rfl, rfl, rfl⟩
  ·exact .inr ⟨rfl, rfl, rfl⟩
  ·exact .inl ⟨rfl, rfl, decide_eq_false (by omega), decide_eq_false (by omega), rfl⟩
 clear hk h2 hB n1 hs hn hm
 go_enter Tryz.func73, Tryz.ntmps73
 go_upto_region 3 with fail
 try rw [hW]
 go_cut [47] (fun s wz => s = .bool false /\ wz = W)
 case first =>
  rcases hf with ⟨rfl, f1, f2, f3, f4⟩ | ⟨f1, f2, f3⟩
  ·go_wp2
   go_meet
   case rel => exact ⟨rfl, rfl⟩
  ·go_wp2
   go_meet
   case rel => exact ⟨rfl, rfl⟩
 case rest =>
  obtain ⟨rfl, rfl⟩ := hcut; clear hf s1 s2 s3 s4 a1 a2 a3 hW; go_wp2
  go_loopw [51] (fun i wr => ∃ k : Nat, k <= m /\ i = .int .i64 (k : Int) /\ Below w.heap.size w wr) (fun i _ => m - (intOf i).toNat)
  case atStart => exact ⟨0, by omega, rfl, HB.out⟩
  case round =>
   obtain ⟨k, hk, rfl, hB⟩ := hrel
   by_cases hlt : k < m
   ·have i1 : (k : Int) < m := by omega
    have hltR : k < R.length := by rw [HM.out]; exact hlt
    have ha := List.getElem?_eq_getElem hltR; obtain ⟨b, o, rfl, e1, e2⟩ := (H0.out.below hB).k k R[k] ha; have hok := HK.out R[k] (List.getElem_mem hltR); have hB2 : Below w.heap.size w (wr.alloc (Obj.cells #[.int .i64 (R[k]).1, .int .u16 (R[k]).2] 101)) := hB.alloc hB.size _; have HB2 := S.hid hB2; clear ha hB2 hB; generalize R[k] = t at *
    have d1 : decide (t.1 < 1) = false := decide_eq_false (by omega); have d2 : decide (4 < t.1) = false := decide_eq_false (by omega); clear hok hltR; go_wp2; go_roundw
    case rel => exact ⟨k + 1, by omega, by go_num, HB2.out⟩
    case measure => simp [intOf]; omega
   ·obtain rfl : k = m := by omega
    go_wp2; go_ret; exact ⟨rfl, hB⟩
end Go.Proofs.YteldjmecomngeaaGreat.V
