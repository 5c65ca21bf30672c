import Derived.Test.YtoemoiehjdmheaaGreatYBank
import Derived.Test.YtoemoiehjdmheaaGreatRows
import Derived.ProofKit
import Derived.OpenShut
import Derived.JoinedCond
import Derived.ChangeOld
import Derived.Below
import Derived.WalkKit
import Derived.Deep.Slices
import Derived.SizedLaws
namespace Go.Proofs.YtoemoiehjdmheaaGreat.Y
open Go.RowKit Go.ChangeShapes Go.WideShapes Go.ChangeAt
set_option linter.unusedVariables false
set_option linter.unusedSimpArgs false
set_option maxRecDepth 100000
theorem own : ownKnob Tryz.prog.godebug = none := by kernel_rfl
theorem laidOut : laidOutB Tryz.prog = true := by kernel_rfl
section
variable {H : Type} {enc : TypeId × Value -> H}
theorem undNd : Tryz.prog.underlying 90 = some (.struct #[⟨ "Kind", 3, 0, false, "", "", 0⟩, ⟨ "Op", 3, 1, false, "", "", 8⟩, ⟨ "Value", 57, 2, false, "", "", 16⟩, ⟨ "Name", 9, 3, false, "", "", 24⟩, ⟨ "Then", 58, 4, false, "", "", 40⟩, ⟨ "Else", 58, 5, false, "", "", 64⟩, ⟨ "Has", 4, 6, false, "", "", 88⟩, ⟨ "Pos", 33, 7, false, "", "", 96⟩]) := by kernel_rfl
theorem undPs : Tryz.prog.underlying 33 = some (.struct #[⟨ "Line", 3, 0, false, "", "", 0⟩, ⟨ "Col", 3, 1, false, "", "", 8⟩]) := by kernel_rfl
theorem cNd : Tryz.prog.cellsOf 90 = 9 := by kernel_rfl
theorem cPs : Tryz.prog.cellsOf 33 = 2 := by kernel_rfl
theorem c3 : Tryz.prog.cellsOf 3 = 1 := by kernel_rfl
theorem c4 : Tryz.prog.cellsOf 4 = 1 := by kernel_rfl
theorem c9 : Tryz.prog.cellsOf 9 = 1 := by kernel_rfl
theorem cU : Tryz.prog.cellsOf 57 = 1 := by kernel_rfl
theorem cNs : Tryz.prog.cellsOf 58 = 1 := by kernel_rfl
theorem open_pos {W : World} {n : Nat} {cs : List Value} {x : DataW H × List MemPlace} (h : DataW.trod enc Tryz.prog W 0 (fun _ => true) true n 33 cs = some x) : ∃ p : Ps, cs = [.int .i64 p.1, .int .i64 p.2] := by
 obtain ⟨xs, q, _, hxy, hcl, hxl, hf⟩ := DataW.trod_struct undPs h
 rw [cPs] at hcl
 match xs, hxl, cs, hcl with
 | [x0, x1], _, [a, b], _ =>
  have f0 := hf 0 _ rfl
  have f1 := hf 1 _ rfl
  replace f0 : DataW.trod enc Tryz.prog W 0 (fun _ => true) true q 3 [a] = some x0 := by simpa [c3] using f0
  replace f1 : DataW.trod enc Tryz.prog W 0 (fun _ => true) true q 3 [b] = some x1 := by simpa [c3] using f1
  obtain ⟨k0, e0, _, _⟩ := DataW.trod_int Tryz.underlying3 f0
  obtain ⟨k1, e1, _, _⟩ := DataW.trod_int Tryz.underlying3 f1
  simp only [List.cons.injEq, and_true] at e0 e1
  subst e0 e1
  exact ⟨(k0, k1), rfl⟩
theorem add_none {a : Addr} {W : World} {v : Value} (h : W.cell? (a.add 0) = some v) : a.spot = none := by
 have := World.cell?_spot h
 simpa [Addr.add] using this
theorem bulk_part : ∀ (l : List (DataW H)) (i : Nat) (d : DataW H), l[i]? = some d -> Rows.uptoBulk d <= Rows.uptoBulkAll l
 | [], i, d, h => by simp at h
 | x :: r, 0, d, h => by simp at h; subst h; rw [Rows.uptoBulkAll]; omega
 | x :: r, i + 1, d, h => by
  have := bulk_part r i d (by simpa using h)
  rw [Rows.uptoBulkAll]; omega
end
end Go.Proofs.YtoemoiehjdmheaaGreat.Y
