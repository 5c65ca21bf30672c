import Derived.Test.YtmlpijjjkpnioaaDoorCRDec
import Derived.Test.YtmlpijjjkpnioaaDoorCKnownW
/-! CartTables: pieces. -/
namespace Go.Proofs.YtmlpijjjkpnioaaDoor.C
open Go.RowKit
open Go.Proofs
open Go.Proofs.YtmlpijjjkpnioaaDoor.K
set_option linter.unusedVariables false
set_option linter.unusedSimpArgs false
/-- A section's entry: kind, number, place, size. -/
abbrev Pc := UInt8 × UInt8 × Nat × Nat
def pcB (t : Pc) : List UInt8 := [t.1] ++ ([t.2.1] ++ (low 4 t.2.2.1 ++ low 4 t.2.2.2))
def pcsB : List Pc → List UInt8
  | [] => []
  | t :: l => pcB t ++ pcsB l
theorem pcB_len (t : Pc) : (pcB t).length = 10 := by unfold pcB; simp only [List.length_append, low_len, List.length_cons, List.length_nil]
theorem pcsB_len : ∀ l : List Pc, (pcsB l).length = 10 * l.length
  | [] => rfl
  | t :: l => by rw [pcsB, List.length_append, pcB_len, pcsB_len l, List.length_cons]; omega
theorem pcsB_snoc : ∀ (l : List Pc) (t : Pc), pcsB (l ++ [t]) = pcsB l ++ pcB t
  | [], t => by simp [pcsB]
  | x :: l, t => by rw [List.cons_append, pcsB, pcsB_snoc l t, pcsB, List.append_assoc]
def PcS (W : World) (a : Option Addr) (ps : List Pc) : Prop := ∀ i t, ps[i]? = some t → ∃ b o, a = some (⟨b, o, none⟩ : Addr) ∧ W.cell? ⟨b, o + i * 4, none⟩ = some (.int .u8 (t.1.toNat : Int)) ∧ W.cell? ⟨b, o + i * 4 + 1, none⟩ = some (.int .u8 (t.2.1.toNat : Int)) ∧ W.cell? ⟨b, o + i * 4 + 2, none⟩ = some (.int .u32 (t.2.2.1 : Int)) ∧ W.cell? ⟨b, o + i * 4 + 3, none⟩ = some (.int .u32 (t.2.2.2 : Int)) ∧ t.2.2.1 < 4294967296 ∧ t.2.2.2 < 4294967296
theorem PcS.below {W W' : World} {a : Option Addr} {ps : List Pc} (h : PcS W a ps) (k : Below W.heap.size W W') : PcS W' a ps := fun i t ht => by
  obtain ⟨b, o, e, c0, c1, c2, c3, r⟩ := h i t ht
  exact ⟨b, o, e, below_cell k _ _ c0, below_cell k _ _ c1, below_cell k _ _ c2, below_cell k _ _ c3, r⟩
end Go.Proofs.YtmlpijjjkpnioaaDoor.C
