import Derived.Test.YteldjmecomngeaaGreatSKit
import Derived.Test.YteldjmecomngeaaGreatCMath
import Derived.Test.YteldjmecomngeaaGreatVPlP
import Derived.WalkKit
import Derived.ProofKit
import Derived.OpenShut
import Derived.ChangeOld
import Derived.Below
import Derived.Deep.Slices
import Derived.Deep.SlicePairs
import Derived.SizedLaws
namespace Go.Proofs.YteldjmecomngeaaGreat.V
open Go.RowKit Go.ChangeShapes Go.WideShapes Go.ChangeAt
open Go.Proofs
set_option linter.unusedVariables false
set_option linter.unusedSimpArgs false
theorem add_none {a : Addr} {W : World} {v : Value} (h : W.cell? (a.add 0) = some v) : a.spot = none := by
 have := World.cell?_spot h
 simpa [Addr.add] using this
theorem add_at (b o k : Nat) : (⟨b, o, none⟩ : Addr).add k = ⟨b, o + k, none⟩ := Addr.add_lit _ _ _
theorem wf_C {x : Int} (h : (Lit.int .u16 x).wf = true) : C.C x := by
 have := bounds_u16 h
 unfold C.C; omega
set_option maxRecDepth 100000
set_option maxHeartbeats 2000000
section
variable {H : Type} {enc : TypeId × Value -> H}
theorem weights_all (P : Program) (e : TypeId) (D : Nat -> DataW H) (q : Nat -> Bool) : ∀ (is : List Nat), (DataW.weightsAll P e (is.map D)).all q = true -> ∀ i ∈ is, ((D i).weights P e).all q = true := by
 intro is
 induction is with
 | nil => intro _ i hi; simp at hi
 | cons j is ih =>
  intro h i hi; simp only [List.map_cons, DataW.weightsAll, List.all_append, Bool.and_eq_true] at h
  rcases List.mem_cons.1 hi with rfl | hi
  ·exact h.1
  ·exact ih h.2 i hi
end
end Go.Proofs.YteldjmecomngeaaGreat.V
namespace Go.Proofs.YteldjmecomngeaaGreat.V
open Go.RowKit Go.ChangeShapes Go.WideShapes Go.ChangeAt
open Go.Proofs
set_option linter.unusedVariables false
set_option linter.unusedSimpArgs false
set_option maxRecDepth 100000
set_option maxHeartbeats 4000000
section
variable {H : Type} {enc : TypeId × Value -> H}
theorem undS : Tryz.prog.underlying 90 = some (.struct #[⟨ "Kind", 3, 0, false, "", "", 0⟩, ⟨ "Which", 3, 1, false, "", "", 8⟩, ⟨ "Pad", 5, 2, false, "", "", 16⟩, ⟨ "N", 3, 3, false, "", "", 24⟩, ⟨ "At", 23, 4, false, "", "", 32⟩, ⟨ "X", 5, 5, false, "", "", 34⟩]) := by kernel_rfl
theorem u8_exY {x : Int} (h : (Lit.int .u8 x).wf = true) : ∃ y : UInt8, x = M.bt y := by
 have := bounds_u8 h
 exact ⟨UInt8.ofNat x.toNat, by unfold M.bt; simp; omega⟩
theorem open_op {W : World} {n : Nat} {cs : List Value} {D : DataW H} {Pl : List MemPlace} (h : DataW.trod enc Tryz.prog W 0 (fun _ => true) true n 90 cs = some (D, Pl)) :
  ∃ t : O6, cs = [.int .i64 t.kd, .int .i64 t.wh, .int .u8 (M.bt t.pad), .int .i64 t.n, .int .u16 t.at_, .int .u8 (M.bt t.x)] /\ C.C t.at_ := by
 obtain ⟨xs, q, _, hxy, hcl, hxl, hf⟩ := DataW.trod_struct undS h
 have hc5 : Tryz.prog.cellsOf 90 = 6 := by kernel_rfl
 rw [hc5] at hcl
 have c3 : Tryz.prog.cellsOf 3 = 1 := by kernel_rfl
 have c5 : Tryz.prog.cellsOf 5 = 1 := by kernel_rfl
 have c31 : Tryz.prog.cellsOf 23 = 1 := by kernel_rfl
 match xs, hxl, cs, hcl with
 | [x0, x1, x2, x3, x4, x5], _, [a, b, c, d, e, f], _ =>
  have f0 := hf 0 _ rfl; have f1 := hf 1 _ rfl; have f2 := hf 2 _ rfl; have f3 := hf 3 _ rfl; have f4 := hf 4 _ rfl; have f5 := hf 5 _ rfl
  replace f0 : DataW.trod enc Tryz.prog W 0 (fun _ => true) true q 3 [a] = some x0 := by simpa [c3] using f0
  replace f1 : DataW.trod enc Tryz.prog W 0 (fun _ => true) true q 3 [b] = some x1 := by simpa [c3] using f1
  replace f2 : DataW.trod enc Tryz.prog W 0 (fun _ => true) true q 5 [c] = some x2 := by simpa [c5] using f2
  replace f3 : DataW.trod enc Tryz.prog W 0 (fun _ => true) true q 3 [d] = some x3 := by simpa [c3] using f3
  replace f4 : DataW.trod enc Tryz.prog W 0 (fun _ => true) true q 23 [e] = some x4 := by simpa [c31] using f4
  replace f5 : DataW.trod enc Tryz.prog W 0 (fun _ => true) true q 5 [f] = some x5 := by simpa [c5] using f5
  obtain ⟨k0, e0, _, _⟩ := DataW.trod_int Tryz.underlying3 f0; obtain ⟨k1, e1, _, _⟩ := DataW.trod_int Tryz.underlying3 f1; obtain ⟨k2, e2, q2, r2⟩ := DataW.trod_int Tryz.underlying5 f2; obtain ⟨k3, e3, _, _⟩ := DataW.trod_int Tryz.underlying3 f3; obtain ⟨k4, e4, q4, r4⟩ := DataW.trod_int Tryz.underlying23 f4; obtain ⟨k5, e5, q5, r5⟩ := DataW.trod_int Tryz.underlying5 f5; simp only [List.cons.injEq, and_true] at e0 e1 e2 e3 e4 e5; subst e0 e1 e2 e3 e4 e5; obtain ⟨y2, hy2⟩ := u8_exY (by first | exact r2 | exact q2); obtain ⟨y5, hy5⟩ := u8_exY (by first | exact r5 | exact q5); subst hy2 hy5; exact ⟨⟨k0, k1, y2, k3, k4, y5⟩, rfl, wf_C (by first | exact r4 | exact q4)⟩
theorem open_script {W : World} {base : Nat} {v : Value} {d : DataW H} {p : List MemPlace} (hval : Value.okWide Tryz.prog W .any base 75 v) (h : DataW.Trod enc Tryz.prog W 0 (fun _ => true) true 75 v d p) :
  ∃ (ps : List O6) (pp : Option Addr) (c : Nat), v = .slice pp ps.length c /\ Sc6 W pp ps := by
 obtain ⟨a, len, cap, rfl⟩ := okWide_slice Tryz.underlying75 hval
 obtain ⟨fuel, hf⟩ := h
 rcases Deep.open_slice Tryz.underlying75 hf with ⟨hcs, hx⟩ | ⟨x, l, c, m, n, D, Pl, hcs, _, hl, hm, hmm, hx, hel⟩
 ·simp [Value.cells] at hcs
  obtain ⟨rfl, rfl, rfl⟩ := hcs; exact ⟨[], none, 0, rfl, fun i l hi => by simp at hi⟩
 ·simp [Value.cells] at hcs
  obtain ⟨rfl, rfl, rfl⟩ := hcs; simp only [Prod.mk.injEq] at hx; obtain ⟨rfl, rfl⟩ := hx; simp only [if_true] at hmm; have hc5 : Tryz.prog.cellsOf 90 = 6 := by kernel_rfl
  rw [hc5] at hel
  have hsp0 : 0 < len -> x.spot = none := fun hp => by
   obtain ⟨cs', h1, h2⟩ := hel 0 (by omega); obtain ⟨_, hlen, hcell⟩ := World.cells?_some h1; obtain ⟨t, rfl, _⟩ := open_op h2; have g0 := hcell 0 (by simp); rw [Deep.add_add] at g0; exact add_none g0
  have hex : ∀ i, i < len -> ∃ t : O6, (∃ b o, some x = some (⟨b, o, none⟩ : Addr) /\ W.cell? ⟨b, o + i * 6, none⟩ = some (.int .i64 t.kd) /\ W.cell? ⟨b, o + i * 6 + 1, none⟩ = some (.int .i64 t.wh) /\ W.cell? ⟨b, o + i * 6 + 2, none⟩ = some (.int .u8 (M.bt t.pad)) /\ W.cell? ⟨b, o + i * 6 + 3, none⟩ = some (.int .i64 t.n) /\ W.cell? ⟨b, o + i * 6 + 4, none⟩ = some (.int .u16 t.at_) /\ W.cell? ⟨b, o + i * 6 + 5, none⟩ = some (.int .u8 (M.bt t.x))) /\ C.C t.at_ := by
   intro i hi; obtain ⟨cs', h1, h2⟩ := hel i (by omega); obtain ⟨_, hlen, hcell⟩ := World.cells?_some h1; obtain ⟨t, rfl, hy⟩ := open_op h2; have g0 := hcell 0 (by simp); have g1 := hcell 1 (by simp); have g2 := hcell 2 (by simp); have g3 := hcell 3 (by simp); have g4 := hcell 4 (by simp); have g5 := hcell 5 (by simp); simp only [List.getElem?_cons_zero, List.getElem?_cons_succ] at g0 g1 g2 g3 g4 g5; rw [Deep.add_add] at g0 g1 g2 g3 g4 g5; have hsp := hsp0 (by omega); obtain ⟨b, o, sp⟩ := x; simp only at hsp; subst hsp; rw [add_at] at g0 g1 g2 g3 g4 g5; exact ⟨t, ⟨b, o, rfl, g0, by rw [Nat.add_assoc]; exact g1, by rw [Nat.add_assoc]; exact g2, by rw [Nat.add_assoc]; exact g3, by rw [Nat.add_assoc]; exact g4, by rw [Nat.add_assoc]; exact g5⟩, hy⟩
  have : Inhabited O6 := ⟨⟨0, 0, 0, 0, 0, 0⟩⟩
  obtain ⟨f, hf2⟩ := Deep.choose_lt hex; refine ⟨(List.range len).map f, some x, cap, by simp, fun i t hi => ?_⟩
  have hil : i < len := by
   by_cases h : i < len
   ·exact h
   ·rw [List.getElem?_eq_none (by simp; omega)] at hi; cases hi
  simp [hil] at hi
  subst hi; exact hf2 i hil
end
end Go.Proofs.YteldjmecomngeaaGreat.V
