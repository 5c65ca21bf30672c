import Derived.Test.YteldjmecomngeaaGreatVCopy
import Derived.Test.YteldjmecomngeaaGreatVRxK
namespace Go.Proofs.YteldjmecomngeaaGreat.V
open Go.RowKit
open Go.Proofs
set_option linter.unusedVariables false
set_option linter.unusedSimpArgs false
set_option maxHeartbeats 2000000
set_option maxRecDepth 100000
theorem sameState_true (v : VS) (p1 p2 q1 q2 : Option Addr) (cp1 cp2 cq1 cq2 : Nat) (hd : v.D.length <= 256) (hr : v.R.length <= 128) (w : World) (h1 : S.Sl S.eU 1 w p1 v.D) (h2 : S.Sl S.eK 2 w p2 v.R) (h3 : S.Sl S.eU 1 w q1 v.D) (h4 : S.Sl S.eK 2 w q2 v.R) :
  Calls Tryz.prog 17 #[StV v (.slice p1 v.D.length cp1) (.slice p2 v.R.length cp2), StV v (.slice q1 v.D.length cq1) (.slice q2 v.R.length cq2)] w fun e w' => e = .returned (.bool true) /\ Below w.heap.size w w' := by
 unfold StV
 obtain ⟨W, hW⟩ : ∃ W, W = ((w.alloc (.cells #[.int .u16 v.pc, .int .i64 v.st, .int .i64 v.fa, .slice p1 v.D.length cp1, .slice p2 v.R.length cp2] 46)).alloc (.cells #[.int .u16 v.pc, .int .i64 v.st, .int .i64 v.fa, .slice q1 v.D.length cq1, .slice q2 v.R.length cq2] 55)) := ⟨_, rfl⟩
 have hB : Below w.heap.size w W := by rw [hW]; exact ((Below.refl _ w).alloc (Nat.le_refl _) _).alloc (by simp) _
 have n1 : W.heap[w.heap.size]? = some (.cells #[.int .u16 v.pc, .int .i64 v.st, .int .i64 v.fa, .slice p1 v.D.length cp1, .slice p2 v.R.length cp2] 46 (0, 0)) := by rw [hW]; exact heap_alloc2_old w _ _
 have n2 : W.heap[w.heap.size + 1]? = some (.cells #[.int .u16 v.pc, .int .i64 v.st, .int .i64 v.fa, .slice q1 v.D.length cq1, .slice q2 v.R.length cq2] 55 (0, 0)) := by rw [hW]; exact heap_alloc2_new w _ _
 have HB := S.hid hB
 have H1 := S.hid (h1.below hB)
 have H2 := S.hid (h2.below hB)
 have H3 := S.hid (h3.below hB)
 have H4 := S.hid (h4.below hB)
 have a3 := fun q => (show (W.drewN q).cell? ⟨w.heap.size, 3, none⟩ = some (.slice p1 v.D.length cp1) from S.cell_of W _ 3 [.int .u16 v.pc, .int .i64 v.st, .int .i64 v.fa, .slice p1 v.D.length cp1, .slice p2 v.R.length cp2] _ _ n1 rfl)
 have a4 := fun q => (show (W.drewN q).cell? ⟨w.heap.size, 4, none⟩ = some (.slice p2 v.R.length cp2) from S.cell_of W _ 4 [.int .u16 v.pc, .int .i64 v.st, .int .i64 v.fa, .slice p1 v.D.length cp1, .slice p2 v.R.length cp2] _ _ n1 rfl)
 have b3 := fun q => (show (W.drewN q).cell? ⟨w.heap.size + 1, 3, none⟩ = some (.slice q1 v.D.length cq1) from S.cell_of W _ 3 [.int .u16 v.pc, .int .i64 v.st, .int .i64 v.fa, .slice q1 v.D.length cq1, .slice q2 v.R.length cq2] _ _ n2 rfl)
 have b4 := fun q => (show (W.drewN q).cell? ⟨w.heap.size + 1, 4, none⟩ = some (.slice q2 v.R.length cq2) from S.cell_of W _ 4 [.int .u16 v.pc, .int .i64 v.st, .int .i64 v.fa, .slice q1 v.D.length cq1, .slice q2 v.R.length cq2] _ _ n2 rfl)
 have aw0 := S.cell_of W _ 0 [.int .u16 v.pc, .int .i64 v.st, .int .i64 v.fa, .slice p1 v.D.length cp1, .slice p2 v.R.length cp2] _ _ n1 rfl
 have aw1 := S.cell_of W _ 1 [.int .u16 v.pc, .int .i64 v.st, .int .i64 v.fa, .slice p1 v.D.length cp1, .slice p2 v.R.length cp2] _ _ n1 rfl
 have aw2 := S.cell_of W _ 2 [.int .u16 v.pc, .int .i64 v.st, .int .i64 v.fa, .slice p1 v.D.length cp1, .slice p2 v.R.length cp2] _ _ n1 rfl
 have aw3 := S.cell_of W _ 3 [.int .u16 v.pc, .int .i64 v.st, .int .i64 v.fa, .slice p1 v.D.length cp1, .slice p2 v.R.length cp2] _ _ n1 rfl
 have aw4 := S.cell_of W _ 4 [.int .u16 v.pc, .int .i64 v.st, .int .i64 v.fa, .slice p1 v.D.length cp1, .slice p2 v.R.length cp2] _ _ n1 rfl
 have bw0 := S.cell_of W _ 0 [.int .u16 v.pc, .int .i64 v.st, .int .i64 v.fa, .slice q1 v.D.length cq1, .slice q2 v.R.length cq2] _ _ n2 rfl
 have bw1 := S.cell_of W _ 1 [.int .u16 v.pc, .int .i64 v.st, .int .i64 v.fa, .slice q1 v.D.length cq1, .slice q2 v.R.length cq2] _ _ n2 rfl
 have bw2 := S.cell_of W _ 2 [.int .u16 v.pc, .int .i64 v.st, .int .i64 v.fa, .slice q1 v.D.length cq1, .slice q2 v.R.length cq2] _ _ n2 rfl
 have bw3 := S.cell_of W _ 3 [.int .u16 v.pc, .int .i64 v.st, .int .i64 v.fa, .slice q1 v.D.length cq1, .slice q2 v.R.length cq2] _ _ n2 rfl
 have bw4 := S.cell_of W _ 4 [.int .u16 v.pc, .int .i64 v.st, .int .i64 v.fa, .slice q1 v.D.length cq1, .slice q2 v.R.length cq2] _ _ n2 rfl
 have ns := neq_cell
 have hW' := hW.symm
 clear h1 h2 h3 h4 hB n1 n2 hW
 go_enter Tryz.func17, Tryz.ntmps17
 go_wp2
 go_loopw [47] (fun i wr => ∃ k q : Nat, k <= v.D.length /\ i = .int .i64 (k : Int) /\ wr = W.drewN q) (fun i _ => v.D.length - (intOf i).toNat)
 case atStart => exact ⟨0, 0, by omega, rfl, rfl⟩
 case round =>
  obtain ⟨k, q, hk, rfl, rfl⟩ := hrel
  by_cases hlt : k < v.D.length
  ·have i1 : (k : Int) < v.D.length := by omega
   obtain ⟨b, o, rfl, e1⟩ := H1.out.u k v.D[k] (List.getElem?_eq_getElem hlt); obtain ⟨b', o', rfl, f1⟩ := H3.out.u k v.D[k] (List.getElem?_eq_getElem hlt); generalize v.D[k] = t at *
   have g1 : ∀ q, (W.drewN q).cell? ⟨b, o + k, none⟩ = some (.int .u16 t) := fun q => e1
   have g4 : ∀ q, (W.drewN q).cell? ⟨b', o' + k, none⟩ = some (.int .u16 t) := fun q => f1
   have w1' : wrap64 ((k : Int) + 1) = ((k + 1 : Nat) : Int) := by simp [wrap64]; omega
   go_wp2_with fail
   go_quiet (fail)
   go_wp2; go_roundw
   case rel =>
    first
     | exact ⟨k + 1, _, hlt, (by first | rfl | rw [w1']), rfl⟩
     | ((repeat apply Exists.intro); refine ⟨⟨k + 1, _, hlt, ?_, rfl⟩, rfl⟩; first | rfl | rw [w1'])
   case measure => exact msr2 _ _ _ k (by first | rfl | rw [w1']) rfl hlt
  ·obtain rfl : k = v.D.length := by omega
   go_wp2
   go_loopw [65] (fun i wr => ∃ k q : Nat, k <= v.R.length /\ i = .int .i64 (k : Int) /\ wr = W.drewN q) (fun i _ => v.R.length - (intOf i).toNat)
   case atStart => exact ⟨0, q, by omega, rfl, rfl⟩
   case round =>
    obtain ⟨k, q, hk, rfl, rfl⟩ := hrel
    by_cases hlt : k < v.R.length
    ·have i1 : (k : Int) < v.R.length := by omega
     obtain ⟨b, o, rfl, e1, e2⟩ := H2.out.k k v.R[k] (List.getElem?_eq_getElem hlt); obtain ⟨b', o', rfl, f1, f2⟩ := H4.out.k k v.R[k] (List.getElem?_eq_getElem hlt); generalize v.R[k] = t at *
     have g1 : ∀ q, (W.drewN q).cell? ⟨b, o + k * 2, none⟩ = some (.int .i64 t.1) := fun q => e1
     have g2 : ∀ q, (W.drewN q).cell? ⟨b, o + k * 2 + 1, none⟩ = some (.int .u16 t.2) := fun q => e2
     have g3 : ∀ q, (W.drewN q).cell? ⟨b', o' + k * 2, none⟩ = some (.int .i64 t.1) := fun q => f1
     have g4 : ∀ q, (W.drewN q).cell? ⟨b', o' + k * 2 + 1, none⟩ = some (.int .u16 t.2) := fun q => f2
     have w1' : wrap64 ((k : Int) + 1) = ((k + 1 : Nat) : Int) := by simp [wrap64]; omega
     go_wp2_with fail
     go_quiet (fail)
     go_wp2; go_roundw
     case rel =>
      first
       | exact ⟨k + 1, _, hlt, (by first | rfl | rw [w1']), rfl⟩
       | ((repeat apply Exists.intro); refine ⟨⟨k + 1, _, hlt, ?_, rfl⟩, rfl⟩; first | rfl | rw [w1'])
     case measure => exact msr2 _ _ _ k (by first | rfl | rw [w1']) rfl hlt
    ·obtain rfl : k = v.R.length := by omega
     go_wp2; go_ret; exact ⟨rfl, dnB HB.out _⟩
end Go.Proofs.YteldjmecomngeaaGreat.V
