import Derived.Test.YteldjmecomngeaaGreatVOpenU
import Derived.Test.YteldjmecomngeaaGreatMRoom
namespace Go.Proofs.YteldjmecomngeaaGreat.V
open Go.RowKit Go.ChangeShapes Go.WideShapes Go.ChangeAt
open Go.Proofs
set_option linter.unusedVariables false
set_option linter.unusedSimpArgs false
set_option maxRecDepth 100000
set_option maxHeartbeats 2000000
theorem list6 {α : Type} (l : List α) (h : l.length = 6) : ∃ a b c d e f, l = [a, b, c, d, e, f] := by
 match l, h with
 | [a, b, c, d, e, f], _ => exact ⟨a, b, c, d, e, f, rfl⟩
theorem undO : Tryz.prog.underlying 98 = some (.struct #[⟨ "Op", 3, 0, false, "", "", 0⟩, ⟨ "Data", 43, 1, false, "", "", 8⟩, ⟨ "Return", 44, 2, false, "", "", 32⟩, ⟨ "Operand", 23, 3, false, "", "", 56⟩, ⟨ "At", 23, 4, false, "", "", 58⟩, ⟨ "X", 5, 5, false, "", "", 60⟩]) := by kernel_rfl
theorem u8_of {x : Int} (h : (Lit.int .u8 x).wf = true) : ∃ y : UInt8, x = M.bt y := by
 have := bounds_u8 h
 exact ⟨UInt8.ofNat x.toNat, by simp [M.bt]; omega⟩
section
variable {H : Type} {enc : TypeId × Value -> H}
theorem open_one {W : World} {base : Nat} {v : Value} {d : DataW H} {p : List MemPlace} (hval : Value.okWide Tryz.prog W .any base 98 v) (h : DataW.Trod enc Tryz.prog W 0 (fun _ => true) true 98 v d p) :
  ∃ (op x at_ : Int) (D : List Int) (pp : Option Addr) (pc : Nat) (R : List (Int × Int)) (qp : Option Addr) (qc : Nat) (b : UInt8), v = .agg #[.int .i64 op, .slice pp D.length pc, .slice qp R.length qc, .int .u16 x, .int .u16 at_, .int .u8 (M.bt b)] /\ (∀ z ∈ D, C.C z) /\ (∀ z ∈ R, C.C z.2) /\ C.C x /\ C.C at_ /\ S.Sl S.eU 1 W pp D /\ S.Sl S.eK 2 W qp R := by
 obtain ⟨cs, rfl, hsz⟩ := okWide_struct undO hval
 obtain ⟨fuel, hf⟩ := h
 obtain ⟨xs, q, _, hxy, hcl, hxl, hff⟩ := DataW.trod_struct undO hf
 have hc6 : Tryz.prog.cellsOf 98 = 6 := by kernel_rfl
 rw [hc6] at hcl
 have k43 : Tryz.prog.cellsOf 43 = 1 := by kernel_rfl
 have k44 : Tryz.prog.cellsOf 44 = 1 := by kernel_rfl
 have k3 : Tryz.prog.cellsOf 3 = 1 := by kernel_rfl
 have k23 : Tryz.prog.cellsOf 23 = 1 := by kernel_rfl
 have k5 : Tryz.prog.cellsOf 5 = 1 := by kernel_rfl
 have hcs : ∃ a0 a1 a2 a3 a4 a5, cs = #[a0, a1, a2, a3, a4, a5] := by
  obtain ⟨l⟩ := cs
  simp [Value.cells] at hcl
  obtain ⟨a0, a1, a2, a3, a4, a5, e⟩ := list6 l hcl
  exact ⟨a0, a1, a2, a3, a4, a5, by rw [e]⟩
 obtain ⟨a0, a1, a2, a3, a4, a5, rfl⟩ := hcs
 obtain ⟨x0, x1, x2, x3, x4, x5, rfl⟩ := list6 xs hxl
 have f0 := hff 0 _ rfl
 have f1 := hff 1 _ rfl
 have f2 := hff 2 _ rfl
 have f3 := hff 3 _ rfl
 have f4 := hff 4 _ rfl
 have f5 := hff 5 _ rfl
 replace f0 : DataW.trod enc Tryz.prog W 0 (fun _ => true) true q 3 [a0] = some x0 := by simpa [k3, Value.cells] using f0
 replace f1 : DataW.trod enc Tryz.prog W 0 (fun _ => true) true q 43 [a1] = some x1 := by simpa [k43, Value.cells] using f1
 replace f2 : DataW.trod enc Tryz.prog W 0 (fun _ => true) true q 44 [a2] = some x2 := by simpa [k44, Value.cells] using f2
 replace f3 : DataW.trod enc Tryz.prog W 0 (fun _ => true) true q 23 [a3] = some x3 := by simpa [k23, Value.cells] using f3
 replace f4 : DataW.trod enc Tryz.prog W 0 (fun _ => true) true q 23 [a4] = some x4 := by simpa [k23, Value.cells] using f4
 replace f5 : DataW.trod enc Tryz.prog W 0 (fun _ => true) true q 5 [a5] = some x5 := by simpa [k5, Value.cells] using f5
 obtain ⟨z0, e0, _, _⟩ := DataW.trod_int Tryz.underlying3 f0
 obtain ⟨l1, pp1, c1, e1, _, _, s1, _, w1⟩ := open_us0 f1
 obtain ⟨l2, pp2, c2, e2, _, _, s2, _, w2⟩ := open_ks0 f2
 obtain ⟨z3, e3, r3, t3⟩ := DataW.trod_int Tryz.underlying23 f3
 obtain ⟨z4, e4, r4, t4⟩ := DataW.trod_int Tryz.underlying23 f4
 obtain ⟨z5, e5, r5, t5⟩ := DataW.trod_int Tryz.underlying5 f5
 simp at e0 e1 e2 e3 e4 e5
 subst e0 e1 e2 e3 e4 e5
 obtain ⟨y, hy⟩ := u8_of (x := z5) (by first | exact t5 | exact r5 | assumption)
 subst hy
 exact ⟨z0, z3, z4, l1, pp1, c1, l2, pp2, c2, y, rfl, w1, w2, wf_C (by first | exact t3 | exact r3 | assumption), wf_C (by first | exact t4 | exact r4 | assumption), s1, s2⟩
end
end Go.Proofs.YteldjmecomngeaaGreat.V
