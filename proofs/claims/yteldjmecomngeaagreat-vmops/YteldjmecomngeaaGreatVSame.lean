import Derived.Test.YteldjmecomngeaaGreatVNew
import Derived.Test.YteldjmecomngeaaGreatMOps
import Derived.Laws.StructEq
import Derived.Laws.IdiomRangeMap
import Derived.Maps.RangeRun
namespace Go.Proofs.YteldjmecomngeaaGreat.V
open Go.RowKit
open Go.Proofs
set_option linter.unusedVariables false
set_option linter.unusedSimpArgs false
set_option maxHeartbeats 2000000
set_option maxRecDepth 100000
theorem memory_any (g bd br bm : Nat) (kv : Value) (F : Nat -> Prop) (v : VS) (w : World) (h : MV w g bd br bm kv F v) : Calls Tryz.prog 18 #[.pointer (some ⟨g, 0, none⟩)] w fun e w' => e = .returned (.pointer (some ⟨bm, 0, none⟩)) /\ w' = w := by
 have c6 := h.c6
 clear h
 go_enter Tryz.func18, Tryz.ntmps18
 go_wp2
 go_ret
 exact ⟨rfl, rfl⟩
theorem neq_cell (W : World) (k x : Int) : (binOp .neq 101 (.agg #[.int .i64 k, .int .u16 x]) (.agg #[.int .i64 k, .int .u16 x])).run Tryz.prog W = .ok (.bool false) W := by
 have hs : Tryz.prog.underlying 101 = some (.struct (Tryz.prog.fieldsOf 101)) := by kernel_rfl
 have hf : Tryz.prog.fieldsOf 101 = #[⟨ "Kind", 3, 0, false, "", "", 0⟩, ⟨ "Value", 23, 1, false, "", "", 8⟩] := by kernel_rfl
 have hp : Tryz.prog.stoodInHeld 101 = false := by kernel_rfl
 have k1 : Tryz.prog.cellsOf 23 = 1 := by kernel_rfl
 have k2 : Tryz.prog.cellsOf 3 = 1 := by kernel_rfl
 rw [run_neq_struct, run_equalIn_agg W 9999 _ _ _ hs hp, hf]
 simp [go_sem, Tryz.underlying23, Tryz.underlying3, k1, k2, Result.andThen]
set_option maxHeartbeats 2000000
set_option maxRecDepth 100000
def it : Nat -> VS -> Int -> VS × Int
 | 0, u, s => (u, s)
 | i + 1, u, s => it i (doo (look u).op (look u).x (cyc s u)).2 (s + P.rc (look u).op)
set_option maxHeartbeats 2000000
set_option maxRecDepth 100000
theorem MV.kept {W W' : World} {g bd br bm : Nat} {kv : Value} {F : Nat -> Prop} {v : VS} (h : MV W g bd br bm kv F v) (hs : W.heap.size <= W'.heap.size) (k : ∀ i, i < W.heap.size -> (TV g bd br F i \/ kv.ownBlock = some i) -> W'.heap[i]? = W.heap[i]?) : MV W' g bd br bm kv F v :=
 { h with
  blk := (k _ h.lt (.inl (.inl rfl))).trans h.blk
  ps := ⟨h.ps.d.kept (k _ h.lt_d (.inl (.inr (.inl rfl)))), h.ps.r.kept (k _ h.lt_r (.inl (.inr (.inr (.inl rfl))))), h.ps.m.kept fun i hi f => k i hi (.inl (.inr (.inr (.inr f)))), h.ps.dr, h.ps.fd, h.ps.fr⟩
  code := sl_kept h.code fun i e hi => k i hi (.inr e)
  ck := fun i e => Nat.lt_of_lt_of_le (h.ck i e) hs
  fb := fun i e => Nat.lt_of_lt_of_le (h.fb i e) hs }
section
variable {n : Nat} {W W' : World} {g bd br bm g' bd' br' bm' : Nat} {kv : Value} {F F' : Nat -> Prop} {u u' v : VS}
end
section
variable {w wo wc w2 : World} {lo g bd br bm g' bd' br' bm' : Nat} {kv : Value} {F G : Nat -> Prop} {u x y : VS}
end
set_option maxHeartbeats 2000000
set_option maxRecDepth 100000
def okS (st fa : Int) : Prop := (st = 1 /\ fa = 0) \/ (st = 2 /\ fa = 0) \/ (st = 3 /\ 1 <= fa /\ fa <= 7)
theorem statusMayBe_yes (st fa : Int) (h : okS st fa) (w : World) : Calls Tryz.prog 92 #[.int .i64 st, .int .i64 fa] w fun e w' => e = .returned (.bool true) /\ w' = w := by
 rcases h with ⟨rfl, rfl⟩ | ⟨rfl, rfl⟩ | ⟨rfl, h1, h2⟩
 ·go_enter Tryz.func92, Tryz.ntmps92
  go_wp2
  go_ret
  exact ⟨rfl, rfl⟩
 ·go_enter Tryz.func92, Tryz.ntmps92
  go_wp2
  go_ret
  exact ⟨rfl, rfl⟩
 ·have d1 : decide (1 <= fa) = true := decide_eq_true h1
  have d2 : decide (fa <= 7) = true := decide_eq_true h2
  go_enter Tryz.func92, Tryz.ntmps92
  go_wp2
  go_ret
  exact ⟨rfl, rfl⟩
theorem sameNumbers_yes (p q : Option Addr) (cp cq : Nat) (xs bs : List (Int × List UInt8)) (hl : xs.length <= 1000) (h : xs.map Prod.fst = bs.map Prod.fst) (w : World) (h1 : M.BnS w p xs) (h2 : M.BnS w q bs) :
  Calls Tryz.prog 56 #[.slice p xs.length cp, .slice q bs.length cq] w fun e w' => e = .returned (.bool true) /\ ∃ n, w' = w.drewN n := by
 have hlen : bs.length = xs.length := by have := congrArg List.length h; simpa using this.symm
 rw [hlen]
 go_enter Tryz.func56, Tryz.ntmps56
 go_wp2
 go_loopw [13] (fun i wr => ∃ k n : Nat, k <= xs.length /\ i = .int .i64 (k : Int) /\ wr = w.drewN n) (fun i _ => xs.length - (intOf i).toNat)
 case atStart => exact ⟨0, 0, by omega, rfl, rfl⟩
 case round =>
  obtain ⟨k, n, hk, rfl, rfl⟩ := hrel
  by_cases hlt : k < xs.length
  ·have i1 : (k : Int) < xs.length := by omega
   have hlt2 : k < bs.length := by omega
   have he : (xs[k]).1 = (bs[k]).1 := by
    have := congrArg (fun l => l[k]?) h
    simpa [List.getElem?_map, List.getElem?_eq_getElem hlt, List.getElem?_eq_getElem hlt2] using this
   obtain ⟨b, o, dv, rfl, e1, _, _, _⟩ := h1 k xs[k] (List.getElem?_eq_getElem hlt)
   obtain ⟨b', o', dv', rfl, f1, _, _, _⟩ := h2 k bs[k] (List.getElem?_eq_getElem hlt2)
   rw [<- he] at f1
   generalize (xs[k]).1 = t at *
   have g1 : ∀ q, (w.drewN q).cell? ⟨b, o + k * 2, none⟩ = some (.int .i64 t) := fun q => e1
   have g4 : ∀ q, (w.drewN q).cell? ⟨b', o' + k * 2, none⟩ = some (.int .i64 t) := fun q => f1
   have w1' : wrap64 ((k : Int) + 1) = ((k + 1 : Nat) : Int) := by simp [wrap64]; omega
   clear h1 h2 h he
   go_wp2_with fail
   go_quiet (fail)
   go_wp2
   go_roundw
   case rel =>
    first
     | exact ⟨k + 1, _, hlt, (by first | rfl | rw [w1']), rfl⟩
     | ((repeat apply Exists.intro); refine ⟨⟨k + 1, _, hlt, ?_, rfl⟩, rfl⟩; first | rfl | rw [w1'])
   case measure => exact msr2 _ _ _ k (by first | rfl | rw [w1']) rfl hlt
  ·obtain rfl : k = xs.length := by omega
   go_wp2
   go_ret
   exact ⟨rfl, _, rfl⟩
end Go.Proofs.YteldjmecomngeaaGreat.V
