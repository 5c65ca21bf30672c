import Derived.Test.YthphmeckcmhijaaDoorTurned
import Derived.ProofKit
import Derived.OpenShut
import Derived.LaidMore
import Derived.Deep.DeepHandedRow
import Derived.Lib.LaidTab
import Derived.ChangeOld
import Derived.Below
/-! What the listed table gives a walk; what an argument gives one; a world that meets the condition. -/
namespace Go.Proofs.YthphmeckcmhijaaDoor
open Go.RowKit Go.ChangeShapes Go.WideShapes Go.ChangeAt
set_option linter.unusedVariables false

def laidL : List (String × DataW Unit) := Rows.packTurnedRow.laid
theorem own : ownKnob Tryd.prog.godebug = none := by kernel_rfl
theorem laidOut : laidOutB Tryd.prog = true := by kernel_rfl
def halvesName : String := Rows.packTurnedRow.named.getD 0 ""
def tabL : List Int := (List.range 16).map fun i => ((it 4 i : Nat) : Int)
theorem laid_list : laidL = [(halvesName, Lib.tabData .u32 tabL)] := by kernel_rfl
theorem gTab : Tryd.prog.globalNamed halvesName = some 0 := by kernel_rfl
theorem tab_of_laid {W : World} (h : laidMetH Tryd.prog laidL W) : Tab W := by
  rw [laid_list] at h
  have h0 : laidMet Tryd.prog [(halvesName, Lib.tabData .u32 tabL)] W := h
  have hb := Lib.tabIs_of_head (name := halvesName) (g := 0) (t := 68) (e := 23) (n := 16) (rest := []) gTab (by kernel_rfl) (by kernel_rfl) (by kernel_rfl) (by kernel_rfl) (by kernel_rfl) h0
  intro i hi
  have := hb.cell (g := 0) gTab i (by simpa [tabL] using hi)
  rw [this]
  simp [tabL, hi]
section
variable {H : Type} {enc : TypeId × Value → H}
theorem bytes5 : Tryd.prog.bytesOf 5 = 1 := by kernel_rfl
theorem bulk_one (d : DataW H) : 1 ≤ Rows.uptoBulk d := by
  cases d with
  | lit l => cases l <;> simp [Rows.uptoBulk]
  | _ => simp [Rows.uptoBulk]
theorem bulk_len (l : List (DataW H)) : l.length ≤ Rows.uptoBulkAll l := by
  induction l with
  | nil => simp [Rows.uptoBulkAll]
  | cons x r ih => have := bulk_one x; simp only [Rows.uptoBulkAll, List.length_cons]; omega
/-- A slice of bytes that came in. -/
theorem open_bytes1 {W : World} {a : Option Addr} {len cap : Nat} {d : DataW H} {p : List MemPlace} (h : DataW.Trod enc Tryd.prog W 0 (fun _ => true) true 22 (.slice a len cap) d p) :
    ∃ l : List UInt8, Sl W (.slice a len cap) l ∧ l.length + 1 ≤ Rows.uptoBulk d ∧ ((d.weights Tryd.prog 22).all (· ≤ reachBytes) = true → l.length + 4096 ≤ room) := by
  obtain ⟨fuel, hf⟩ := h
  rcases open_ints Tryd.underlying22 Tryd.underlying5 (by kernel_rfl) hf with ⟨hcs, hx⟩ | ⟨x, l, c, zs, hcs, _, hl, hm, hz, hx, hcell, hwz⟩
  · simp [Value.cells] at hcs
    obtain ⟨rfl, rfl, rfl⟩ := hcs
    simp only [Prod.mk.injEq] at hx
    obtain ⟨rfl, rfl⟩ := hx
    exact ⟨[], .inl ⟨rfl, rfl⟩, by simp [Rows.uptoBulk], fun _ => by decide⟩
  · simp [Value.cells] at hcs
    obtain ⟨rfl, rfl, rfl⟩ := hcs
    simp only [Prod.mk.injEq] at hx
    obtain ⟨rfl, rfl⟩ := hx
    simp only [if_true] at hz
    have hlen : ((zs.take len).map fun n => UInt8.ofNat n.toNat).length = len := by simp; omega
    have hb1 : len ≤ Rows.uptoBulkAll (lits (H := H) .u8 (zs.take len)) := by
      have := bulk_len (lits (H := H) .u8 (zs.take len))
      have h2 : (lits (H := H) .u8 (zs.take len)).length = len := by simp [lits]; omega
      omega
    refine ⟨(zs.take len).map fun n => UInt8.ofNat n.toNat, .inr ⟨x, cap, by rw [hlen], by rw [hlen]; exact hl, fun j b hj => ?_⟩, by rw [hlen]; simp only [Rows.uptoBulk]; omega, fun hw => ?_⟩
    · have hjl : j < len := by
        by_cases h : j < len
        · exact h
        · rw [List.getElem?_eq_none (by rw [hlen]; omega)] at hj; cases hj
      have hc := hcell j (by omega)
      rw [hc]
      have hb := range_u8 hwz j
      rw [List.getElem?_map, List.getElem?_take, if_pos hjl, List.getElem?_eq_getElem (by omega)] at hj
      simp only [Option.map_some, Option.some.injEq] at hj
      subst hj
      have e : zs.getD j 0 = zs[j]'(by omega) := by simp [List.getD, List.getElem?_eq_getElem (show j < zs.length by omega)]
      have e2 : zs[j]?.getD 0 = zs[j]'(by omega) := by rw [List.getElem?_eq_getElem (show j < zs.length by omega)]; rfl
      rw [e2] at hb
      rw [e]
      rw [show UInt8.ofNat (zs[j]'(by omega)).toNat = by8 (zs[j]'(by omega)).toNat from rfl, by8_nat]
      congr 2
      omega
    · rw [hlen]
      simp only [DataW.weights, Tryd.underlying22, List.all_cons, bytes5, Bool.and_eq_true, decide_eq_true_eq] at hw
      have h2 : (lits (H := H) .u8 (zs.take len)).length = len := by simp [lits]; omega
      have h3 := hw.1
      rw [h2] at h3
      unfold reachBytes at h3
      unfold room
      omega
theorem open_bytes {W : World} {base : Nat} {v : Value} {d : DataW H} {p : List MemPlace} (hval : Value.okWide Tryd.prog W .any base 22 v) (h : DataW.Trod enc Tryd.prog W 0 (fun _ => true) true 22 v d p) :
    ∃ l : List UInt8, Sl W v l ∧ l.length + 1 ≤ Rows.uptoBulk d ∧ ((d.weights Tryd.prog 22).all (· ≤ reachBytes) = true → l.length + 4096 ≤ room) := by
  obtain ⟨a, len, cap, rfl⟩ := okWide_slice Tryd.underlying22 hval
  exact open_bytes1 h
end
end Go.Proofs.YthphmeckcmhijaaDoor
