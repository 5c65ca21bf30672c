import Derived.Test.YtlilefhmohkfkaaGreatDoorQRefC
import Derived.Test.YtlilefhmohkfkaaGreatDoorYDef
namespace Go.Proofs.YtlilefhmohkfkaaGreatDoor.Q
open Go.RowKit
open Go.Proofs
open P
set_option linter.unusedVariables false
set_option linter.unusedSimpArgs false
set_option maxHeartbeats 4000000
set_option maxRecDepth 100000
def RX (W : World) (b : Nat) (op : Int) (name : ByteArray) (i o c : Int) (f : Bool) : Prop := W.heap[b]? = some (.cells [.int .i64 op, .string name, .int .i64 i, .int .i64 o, .int .i64 c, .bool f].toArray 119 (0, 0))
theorem rnamed_any (name : ByteArray) (w : World) : Calls Tryz.prog 61 #[.string name] w fun e w' => ((∃ x : Nat, 9 <= x /\ x < 64 /\ (nm x).toList = name.toList /\ e = .returned (.tuple #[rowN x, .bool true])) \/ ((∀ x : Nat, 9 <= x -> x < 64 -> (nm x).toList ≠ name.toList) /\ e = .returned (.tuple #[rowV 0 ⟨#[]⟩ 0 0 0 false, .bool false]))) /\ Below w.heap.size w w' := by
 obtain ⟨wA, hA⟩ : ∃ wA, w.alloc (.cells #[.int .i64 0, .string { data := #[] }, .int .i64 0, .int .i64 0, .int .i64 0, .bool false] 119) = wA := ⟨_, rfl⟩
 have hb : Below w.heap.size w wA := by rw [<- hA]; exact (Below.refl _ w).alloc (Nat.le_refl _) _
 have hz : wA.heap[w.heap.size]? = some (.cells zR 119 (0, 0)) := by rw [<- hA]; exact heap_alloc_new w _
 go_enter Tryz.func61, Tryz.ntmps61
 go_wp2
 try rw [hA]
 go_loopw [4] (fun i wr => ∃ k : Nat, k <= 55 /\ i = .int .i64 ((9 + k : Nat) : Int) /\ (∀ x : Nat, 9 <= x -> x < 9 + k -> (nm x).toList ≠ name.toList) /\ wr.heap[w.heap.size]? = some (.cells zR 119 (0, 0)) /\ Below w.heap.size w wr) (fun i _ => 64 - (intOf i).toNat)
 case atStart => exact ⟨0, by omega, rfl, fun x a b => by omega, hz, hb⟩
 case round =>
  obtain ⟨k, hk, rfl, hne, hzr, hB⟩ := hrel
  by_cases hlt : k < 55
  ·have hc := rrow_at (9 + k) (by omega) (by omega) wr
   have hi0 : ((9 + k : Nat) : Int) < 64 := by omega
   have hn1 : IntKind.i64.wrap (((9 + k : Nat) : Int) + 1) = ((9 + (k + 1) : Nat) : Int) := by rw [S.i64_id _ (by omega) (by omega)]; omega
   have hms : 64 - (((9 + (k + 1) : Nat) : Int)).toNat < 64 - (((9 + k : Nat) : Int)).toNat := by omega
   unfold rowN rowV at hc
   obtain ⟨a1, ha1⟩ : ∃ a1, nm (9 + k) = a1 := ⟨_, rfl⟩
   obtain ⟨a2, ha2⟩ : ∃ a2, ri (9 + k) = a2 := ⟨_, rfl⟩
   obtain ⟨a3, ha3⟩ : ∃ a3, ro (9 + k) = a3 := ⟨_, rfl⟩
   obtain ⟨a4, ha4⟩ : ∃ a4, rc (9 + k) = a4 := ⟨_, rfl⟩
   obtain ⟨a5, ha5⟩ : ∃ a5, rb (9 + k) = a5 := ⟨_, rfl⟩
   have hrow : rowN (9 + k) = rowV ((9 + k : Nat) : Int) a1 a2 a3 a4 a5 := by unfold rowN; rw [ha1, ha2, ha3, ha4, ha5]
   rw [ha1, ha2, ha3, ha4, ha5] at hc
   have HR := Y.hid (And.intro hrow ha1)
   clear hrow ha1 ha2 ha3 ha4 ha5
   generalize hzk : ((9 + k : Nat) : Int) = z at *
   have HM := Y.hid hms
   clear hms
   go_wp2_with fail
   refine hc.mono ?_
   rintro e w1 ⟨rfl, b1⟩
   have hz1 : w1.heap[w.heap.size]? = some (.cells zR 119 (0, 0)) := (b1.block _ (S.lt_of hzr)).trans hzr
   have hB1 : Below w.heap.size w w1 := hB.trans (b1.mono hB.size)
   obtain ⟨w2, hw2⟩ : ∃ w2, w1.alloc (.cells #[.int .i64 z, .string a1, .int .i64 a2, .int .i64 a3, .int .i64 a4, .bool a5] 119) = w2 := ⟨_, rfl⟩
   have r2 : RX w2 w1.heap.size z a1 a2 a3 a4 a5 := by rw [<- hw2]; exact heap_alloc_new w1 _
   have hz2 : w2.heap[w.heap.size]? = some (.cells zR 119 (0, 0)) := by rw [<- hw2]; exact (Below.heap_alloc _ _ _ (S.lt_of hz1)).trans hz1
   have hB2 : Below w.heap.size w w2 := by rw [<- hw2]; exact hB1.alloc hB1.size _
   have e0 := S.cell_of w2 w1.heap.size 0 _ 119 _ r2 rfl
   have e1 := S.cell_of w2 w1.heap.size 1 _ 119 _ r2 rfl
   have e2 := S.cell_of w2 w1.heap.size 2 _ 119 _ r2 rfl
   have e3 := S.cell_of w2 w1.heap.size 3 _ 119 _ r2 rfl
   have e4 := S.cell_of w2 w1.heap.size 4 _ 119 _ r2 rfl
   have e5 := S.cell_of w2 w1.heap.size 5 _ 119 _ r2 rfl
   by_cases hx : (a1.toList == name.toList) = true
   ·have hfin := setRow_heap w2 w.heap.size _ #[.int .i64 z, .string a1, .int .i64 a2, .int .i64 a3, .int .i64 a4, .bool a5] _ _ hz2
    have hbf := Below.setRow hB2 w.heap.size (Nat.le_refl _) #[.int .i64 z, .string a1, .int .i64 a2, .int .i64 a3, .int .i64 a4, .bool a5]
    go_wp2_with (first | (rw [hw2]; refine wpList_store_row rfl 119 _ _ rfl w.heap.size _ rfl rfl 119 zR hz2 (by exact sizeR) (by rfl) (by simp [Value.oneCell']) ?_) | (refine wpList_store_row rfl 119 _ _ rfl w.heap.size _ rfl rfl 119 zR hz2 (by exact sizeR) (by rfl) (by simp [Value.oneCell']) ?_))
    refine bodyPost_ret (v := .tuple #[.agg #[.int .i64 z, .string a1, .int .i64 a2, .int .i64 a3, .int .i64 a4, .bool a5], .bool true]) ?_ rfl ⟨.inl ⟨9 + k, by omega, by omega, by rw [HR.out.2]; exact eq_of_beq hx, by rw [HR.out.1]; rfl⟩, hbf⟩
    rw [results_cell_tmp rfl]
    simp [asAddr, run_loadVar_row _ w.heap.size _ 119 _ _ _ hfin Tryz.underlying119 rfl sizeR]
   ·have hx' : (a1.toList == name.toList) = false := by simpa using hx
    have hne2 : ∀ x : Nat, 9 <= x -> x < 9 + (k + 1) -> (nm x).toList ≠ name.toList := by
     intro x a b
     by_cases q : x < 9 + k
     ·exact hne x a q
     ·obtain rfl : x = 9 + k := by omega
      rw [HR.out.2]
      exact fun e => hx (by rw [e]; simp)
    have HN := Y.hid hne2
    clear hne hne2
    go_wp2
    try rw [hw2]
    go_roundw
    case rel =>
     first
      | exact ⟨k + 1, by omega, by first | rfl | (rw [hn1]) | go_num, HN.out, hz2, hB2⟩
      | ((repeat apply Exists.intro); refine ⟨⟨k + 1, by omega, ?_, HN.out, hz2, hB2⟩, rfl⟩; first | rw [hn1] | rfl)
    case measure => have := HM.out; simpa [intOf] using this
  ·obtain rfl : k = 55 := by omega
   have hfin := setRow_heap wr w.heap.size _ #[.int .i64 0, .string ⟨#[]⟩, .int .i64 0, .int .i64 0, .int .i64 0, .bool false] _ _ hzr
   have hbf := Below.setRow hB w.heap.size (Nat.le_refl _) #[.int .i64 0, .string ⟨#[]⟩, .int .i64 0, .int .i64 0, .int .i64 0, .bool false]
   go_wp2_with (refine wpList_store_row rfl 119 _ _ rfl w.heap.size _ rfl rfl 119 zR hzr (by exact sizeR) (by rfl) (by simp [Value.oneCell']) ?_)
   refine bodyPost_ret (v := .tuple #[rowV 0 ⟨#[]⟩ 0 0 0 false, .bool false]) ?_ rfl ⟨.inr ⟨fun x a b => hne x a (by omega), rfl⟩, hbf⟩
   rw [results_cell_tmp rfl]
   simp [asAddr, run_loadVar_row _ w.heap.size _ 119 _ _ _ hfin Tryz.underlying119 rfl sizeR, rowV]
end Go.Proofs.YtlilefhmohkfkaaGreatDoor.Q
