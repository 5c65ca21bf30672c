import Derived.Test.YthphmeckcmhijaaDoorKit
/-! The scripts that come in. -/
namespace Go.Proofs.YthphmeckcmhijaaDoor
open Go.RowKit
/-- A script of a writer's calls that came in. -/
def PutsS (W : World) (p : Option Addr) (ps : List (Int × Int × List UInt8)) : Prop := ∀ (i : Nat) (t : Int × Int × List UInt8), ps[i]? = some t → ∃ b o vB, p = some ⟨b, o, none⟩ ∧ W.cell? ⟨b, o + i * 3, none⟩ = some (.int .i64 t.1) ∧ W.cell? ⟨b, o + i * 3 + 1, none⟩ = some (.int .i64 t.2.1) ∧ W.cell? ⟨b, o + i * 3 + 2, none⟩ = some vB ∧ Sl W vB t.2.2 ∧ t.2.2.length ≤ 1048576 ∧ (Lit.int .i64 t.1).wf = true ∧ (Lit.int .i64 t.2.1).wf = true

/-- A script of a reader's calls that came in. -/
def TakesS (W : World) (p : Option Addr) (ts : List (Int × Int)) : Prop := ∀ (i : Nat) (t : Int × Int), ts[i]? = some t → ∃ b o, p = some ⟨b, o, none⟩ ∧ W.cell? ⟨b, o + i * 2, none⟩ = some (.int .i64 t.1) ∧ W.cell? ⟨b, o + i * 2 + 1, none⟩ = some (.int .i64 t.2) ∧ (Lit.int .i64 t.1).wf = true ∧ (Lit.int .i64 t.2).wf = true
end Go.Proofs.YthphmeckcmhijaaDoor
