import Derived.Test.YtlljelfplffglabDoorHCAp
/-! The statement's own same. -/
namespace Go.Proofs.YtlljelfplffglabDoor.H
open Go.RowKit
open Go.Proofs
open Go.Proofs.YtlljelfplffglabDoor.K
set_option linter.unusedVariables false
set_option linter.unusedSimpArgs false
set_option maxHeartbeats 2000000
set_option maxRecDepth 100000
theorem ls_at {W : World} {p : Option Addr} {l : List Ch} (h : S.Sl eC 4 W p l) (k : Nat) (hk : k < l.length) : ∃ b o, p = some ⟨b, o, none⟩ ∧ W.cell? ⟨b, o + k * 4, none⟩ = some (.int .i64 l[k].x) ∧ W.cell? ⟨b, o + k * 4 + 1, none⟩ = some (.int .i64 l[k].y) ∧ W.cell? ⟨b, o + k * 4 + 2, none⟩ = some (.int .u8 (l[k].o.toNat : Int)) ∧ W.cell? ⟨b, o + k * 4 + 3, none⟩ = some (.int .u8 (l[k].n.toNat : Int)) := by
  obtain ⟨b, o, e, hc⟩ := h k l[k] (List.getElem?_eq_getElem hk)
  exact ⟨b, o, e, by simpa using hc 0 _ rfl, hc 1 _ rfl, hc 2 _ rfl, hc 3 _ rfl⟩
end Go.Proofs.YtlljelfplffglabDoor.H
