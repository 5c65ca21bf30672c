import Derived.Test.YtoemoiehjdmheaaGreatSDataC
import Derived.Laws.StructEq
namespace Go.Proofs.YtoemoiehjdmheaaGreat.S
open Go.RowKit
open Go.Proofs
set_option linter.unusedVariables false
set_option linter.unusedSimpArgs false
set_option maxHeartbeats 1000000
set_option maxRecDepth 100000
theorem sameU (p p' : Option Addr) (c c' : Nat) (l : List Int) (hl : l.length <= room) (w : World) (h : Sl eU 1 w p l) (h' : Sl eU 1 w p' l) :
  Calls Tryz.prog 20 #[.slice p l.length c, .slice p' l.length c'] w fun e w' => e = .returned (.bool true) /\ ∃ q, w' = w.drewN q := by
 unfold room at hl
 go_enter Tryz.func20, Tryz.ntmps20
 go_wp2
 go_loopw [5] (fun i wr => ∃ k q : Nat, k <= l.length /\ i = .int .i64 (k : Int) /\ wr = w.drewN q) (fun i _ => l.length - (intOf i).toNat)
 case atStart => exact ⟨0, 0, by omega, rfl, rfl⟩
 case round =>
  obtain ⟨k, q, hk, rfl, rfl⟩ := hrel
  by_cases hlt : k < l.length
  ·have i1 : (k : Int) < l.length := by omega
   obtain ⟨b, o, rfl, e1⟩ := h.u k l[k] (List.getElem?_eq_getElem hlt)
   obtain ⟨b', o', rfl, f1⟩ := h'.u k l[k] (List.getElem?_eq_getElem hlt)
   generalize l[k] = t at *
   have g1 : ∀ q, (w.drewN q).cell? ⟨b, o + k, none⟩ = some (.int .u16 t) := fun q => e1
   have g4 : ∀ q, (w.drewN q).cell? ⟨b', o' + k, none⟩ = some (.int .u16 t) := fun q => f1
   clear h h'
   go_wp2_with fail
   go_quiet (fail)
   go_wp2
   go_roundw
   case rel =>
    first
     | exact ⟨k + 1, _, by omega, by go_num, rfl⟩
     | ((repeat apply Exists.intro); refine ⟨⟨k + 1, _, by omega, ?_, rfl⟩, rfl⟩; go_num)
   case measure => simp [intOf]; omega
  ·obtain rfl : k = l.length := by omega
   go_wp2
   go_ret
   exact ⟨rfl, _, rfl⟩
theorem hid {p : Prop} (h : p) : Hid p := h
def z60 : List Value := pc eU 0 []
def z50 : List Value := pc eK (0, 0) []
theorem zinfo60 : (Tryz.prog.info? 104).map (fun i => i.zero) = some (some (.agg z60.toArray)) := by kernel_rfl
theorem zinfo50 : (Tryz.prog.info? 111).map (fun i => i.zero) = some (some (.agg z50.toArray)) := by kernel_rfl
theorem zeroValue60 (w : World) : (zeroValue 104).run Tryz.prog w = .ok (.agg z60.toArray) w := by
 have h := zinfo60
 cases hq : Tryz.prog.info? 104 with
 | none => rw [hq] at h; cases h
 | some i =>
  rw [hq] at h
  have hz : i.zero = some (.agg z60.toArray) := Option.some.inj h
  simp [zeroValue, typeInfo, hq, hz]
theorem zeroValue50 (w : World) : (zeroValue 111).run Tryz.prog w = .ok (.agg z50.toArray) w := by
 have h := zinfo50
 cases hq : Tryz.prog.info? 111 with
 | none => rw [hq] at h; cases h
 | some i =>
  rw [hq] at h
  have hz : i.zero = some (.agg z50.toArray) := Option.some.inj h
  simp [zeroValue, typeInfo, hq, hz]
theorem zc60 (w : World) : Tryz.zeroCells104 = z60.toArray := by
 have h := (Tryz.zeroValue104 w).symm.trans (zeroValue60 w)
 injection h with h1
 injection h1
theorem build60 (W : World) : (Instr.build 104 #[]).run Tryz.prog W = .ok (.agg z60.toArray) W := by
 simp [Instr.build, zc60 W, Value.cells, run_underlying Tryz.underlying104, Tryz.sizeOf102, Instr.fill]
theorem zc50 (w : World) : Tryz.zeroCells111 = z50.toArray := by
 have h := (Tryz.zeroValue111 w).symm.trans (zeroValue50 w)
 injection h with h1
 injection h1
theorem build50 (W : World) : (Instr.build 111 #[]).run Tryz.prog W = .ok (.agg z50.toArray) W := by
 simp [Instr.build, zc50 W, Value.cells, run_underlying Tryz.underlying111, Tryz.sizeOf109, Instr.fill]
theorem wpList_build60 {ops : Array Oper} {rest : List Oper} {o : Oper} {a : Act} {w : World} {Q : Exit -> Act -> World -> Prop} (hg : o.guard = none) (ho : o.op = .build 104 #[])
  (h : wpList Tryz.prog ops Q rest (a.put o.dst (.agg z60.toArray)) w) : wpList Tryz.prog ops Q (o :: rest) a w :=
 wpList_plain hg fun _ hK => by
  unfold Oper.wp execOp
  have e := build60 w
  simp only [ho, List.map_toArray, List.map_nil, Sem.run_bind, e, Result.andThen_ok]
  exact hK _ _ h
theorem wpList_build50 {ops : Array Oper} {rest : List Oper} {o : Oper} {a : Act} {w : World} {Q : Exit -> Act -> World -> Prop} (hg : o.guard = none) (ho : o.op = .build 111 #[])
  (h : wpList Tryz.prog ops Q rest (a.put o.dst (.agg z50.toArray)) w) : wpList Tryz.prog ops Q (o :: rest) a w :=
 wpList_plain hg fun _ hK => by
  unfold Oper.wp execOp
  have e := build50 w
  simp only [ho, List.map_toArray, List.map_nil, Sem.run_bind, e, Result.andThen_ok]
  exact hK _ _ h
theorem hasD0 (W : World) : HasD (W.alloc (.cells z60.toArray 104)) W.heap.size [] := ⟨heap_alloc_new W _, by simp⟩
theorem hasR0 (W : World) : HasR (W.alloc (.cells z50.toArray 111)) W.heap.size [] := ⟨heap_alloc_new W _, by simp⟩
set_option maxHeartbeats 2000000
set_option maxRecDepth 100000
end Go.Proofs.YtoemoiehjdmheaaGreat.S
