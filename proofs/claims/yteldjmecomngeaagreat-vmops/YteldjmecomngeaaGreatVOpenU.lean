import Derived.Test.YteldjmecomngeaaGreatSKit
import Derived.Test.YteldjmecomngeaaGreatCMath
import Derived.WalkKit
import Derived.ProofKit
import Derived.OpenShut
import Derived.ChangeOld
import Derived.Below
import Derived.Deep.Slices
import Derived.Deep.SlicePairs
import Derived.SizedLaws
namespace Go.Proofs.YteldjmecomngeaaGreat.V
open Go.RowKit Go.ChangeShapes Go.WideShapes Go.ChangeAt
open Go.Proofs
set_option linter.unusedVariables false
set_option linter.unusedSimpArgs false
theorem add_none {a : Addr} {W : World} {v : Value} (h : W.cell? (a.add 0) = some v) : a.spot = none := by
 have := World.cell?_spot h
 simpa [Addr.add] using this
theorem add_at (b o k : Nat) : (⟨b, o, none⟩ : Addr).add k = ⟨b, o + k, none⟩ := Addr.add_lit _ _ _
theorem wf_C {x : Int} (h : (Lit.int .u16 x).wf = true) : C.C x := by
 have := bounds_u16 h
 unfold C.C; omega
set_option maxRecDepth 100000
set_option maxHeartbeats 2000000
section
variable {H : Type} {enc : TypeId × Value -> H}
theorem open_us0 {W : World} {fuel : Nat} {cs : List Value} {x : DataW H × List MemPlace} (h : DataW.trod enc Tryz.prog W 0 (fun _ => true) true fuel 43 cs = some x) :
  ∃ (l : List Int) (pp : Option Addr) (c : Nat), cs = [.slice pp l.length c] /\ l.length <= c /\ (pp = none -> c = 0) /\ S.Sl S.eU 1 W pp l /\ ((x.1.weights Tryz.prog 43).all (· <= reachBytes) = true -> l.length * 2 + 4096 <= S.room) /\ ∀ z ∈ l, C.C z := by
 rcases open_ints Tryz.underlying43 Tryz.underlying23 (by kernel_rfl) h with ⟨hcs, hx⟩ | ⟨y, l, c, zs, hcs, _, hl, hm, hz, hx, hcell, hwz⟩
 ·exact ⟨[], none, 0, hcs, by simp, fun _ => rfl, fun i a hi => by simp at hi, fun _ => by decide, by simp⟩
 ·obtain ⟨x1, x2⟩ := x
  simp only [Prod.mk.injEq] at hx
  obtain ⟨rfl, rfl⟩ := hx
  simp only [if_true] at hz
  have hlen : (zs.take l).length = l := by simp; omega
  refine ⟨zs.take l, some y, c, by rw [hlen]; exact hcs, by rw [hlen]; exact hl, (fun e => by cases e), fun i z hi => ?_, fun hw => ?_, fun z hz => wf_C (hwz z (List.mem_of_mem_take hz))⟩
  ·have hjl : i < l := by
    by_cases h : i < l
    ·exact h
    ·rw [List.getElem?_eq_none (by rw [hlen]; omega)] at hi; cases hi
   have hc := hcell i (by omega)
   rw [List.getElem?_take, if_pos hjl, List.getElem?_eq_getElem (by omega)] at hi
   simp only [Option.some.injEq] at hi
   subst hi
   have e : zs.getD i 0 = zs[i]'(by omega) := by simp [List.getD, List.getElem?_eq_getElem (show i < zs.length by omega)]
   rw [e] at hc
   have hsp : y.spot = none := add_none (hcell 0 (by omega))
   obtain ⟨b, o, sp⟩ := y
   simp only at hsp
   subst hsp
   rw [add_at] at hc
   refine ⟨b, o, rfl, fun j u hj => ?_⟩
   cases j with
   | zero => simp only [S.eU, List.getElem?_cons_zero, Option.some.injEq] at hj; subst hj; rw [Nat.mul_one, Nat.add_zero]; exact hc
   | succ j => simp [S.eU] at hj
  ·rw [hlen]
   have hby : Tryz.prog.bytesOf 23 = 2 := by kernel_rfl
   simp only [DataW.weights, Tryz.underlying43, List.all_cons, hby, Bool.and_eq_true, decide_eq_true_eq] at hw
   have h2 : (lits (H := H) .u16 (zs.take l)).length = l := by simp [lits]; omega
   have h3 := hw.1
   rw [h2] at h3
   unfold reachBytes at h3
   unfold S.room
   omega
theorem und43 : Tryz.prog.underlying 101 = some (.struct #[⟨ "Kind", 3, 0, false, "", "", 0⟩, ⟨ "Value", 23, 1, false, "", "", 8⟩]) := by kernel_rfl
theorem open_ks0 {W : World} {fuel : Nat} {cs : List Value} {x : DataW H × List MemPlace} (h : DataW.trod enc Tryz.prog W 0 (fun _ => true) true fuel 44 cs = some x) :
  ∃ (l : List (Int × Int)) (pp : Option Addr) (c : Nat), cs = [.slice pp l.length c] /\ l.length <= c /\ (pp = none -> c = 0) /\ S.Sl S.eK 2 W pp l /\ ((x.1.weights Tryz.prog 44).all (· <= reachBytes) = true -> l.length * 16 + 4096 <= S.room) /\ ∀ t ∈ l, C.C t.2 := by
 rcases Deep.open_slice_pairs Tryz.underlying44 und43 (by kernel_rfl) rfl rfl (by kernel_rfl) (by kernel_rfl) h with ⟨hcs, hx⟩ | ⟨y, len, c, m, n, V0, V1, D0, D1, P0, P1, hcs, _, hl, hm, hmm, hx, hel⟩
 ·exact ⟨[], none, 0, hcs, by simp, fun _ => rfl, fun i a hi => by simp at hi, fun _ => by decide, by simp⟩
 ·obtain ⟨x1, x2⟩ := x
  simp only [Prod.mk.injEq] at hx
  obtain ⟨rfl, rfl⟩ := hx
  simp only [if_true] at hmm
  have hsp0 : 0 < len -> y.spot = none := fun hp => add_none (hel 0 (by omega)).1
  have hex : ∀ i, i < len -> ∃ t : Int × Int, ∃ b o, some y = some (⟨b, o, none⟩ : Addr) /\ W.cell? ⟨b, o + i * 2, none⟩ = some (.int .i64 t.1) /\ W.cell? ⟨b, o + i * 2 + 1, none⟩ = some (.int .u16 t.2) /\ C.C t.2 := by
   intro i hi
   obtain ⟨g0, g1, t0, t1⟩ := hel i (by omega)
   obtain ⟨k, e0, _, w0⟩ := DataW.trod_int Tryz.underlying3 t0
   obtain ⟨v, e1, _, w1⟩ := DataW.trod_int Tryz.underlying23 t1
   simp at e0 e1
   rw [e0] at g0
   rw [e1] at g1
   have hsp := hsp0 (by omega)
   obtain ⟨b, o, sp⟩ := y
   simp only at hsp
   subst hsp
   rw [add_at] at g0 g1
   exact ⟨(k, v), b, o, rfl, g0, by rw [Nat.add_assoc]; exact g1, wf_C w1⟩
  obtain ⟨f, hf2⟩ := Deep.choose_lt hex
  refine ⟨(List.range len).map f, some y, c, by simpa using hcs, by simpa using hl, (fun e => by cases e), fun i t hi => ?_, fun hw => ?_, fun t ht => ?_⟩
  ·have hil : i < len := by
    by_cases h : i < len
    ·exact h
    ·rw [List.getElem?_eq_none (by simp; omega)] at hi; cases hi
   simp [hil] at hi
   subst hi
   obtain ⟨b, o, e1, e2, e3, _⟩ := hf2 i hil
   refine ⟨b, o, e1, fun j u hj => ?_⟩
   match j, hj with
   | 0, hj => simp only [S.eK, List.getElem?_cons_zero, Option.some.injEq] at hj; subst hj; exact e2
   | 1, hj => simp only [S.eK, List.getElem?_cons_succ, List.getElem?_cons_zero, Option.some.injEq] at hj; subst hj; exact e3
   | j + 2, hj => simp [S.eK] at hj
  ·have hby : Tryz.prog.bytesOf 101 = 16 := by kernel_rfl
   simp only [DataW.weights, Tryz.underlying44, List.all_cons, List.all_append, Bool.and_eq_true, decide_eq_true_eq, hby, List.length_map, List.length_range] at hw
   have hw1 := hw.1
   unfold reachBytes at hw1
   simp only [List.length_map, List.length_range]
   unfold S.room
   omega
  ·obtain ⟨i, hi, rfl⟩ := List.mem_map.1 ht
   obtain ⟨_, _, _, _, _, hC⟩ := hf2 i (by simpa using hi)
   exact hC
end
end Go.Proofs.YteldjmecomngeaaGreat.V
