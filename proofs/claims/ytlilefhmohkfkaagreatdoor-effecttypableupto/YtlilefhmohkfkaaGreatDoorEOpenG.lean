import Derived.Test.YtlilefhmohkfkaaGreatDoorVDef
import Derived.Test.YtlilefhmohkfkaaGreatDoorYOpenN
import Derived.LaidMore
import Derived.Deep.RegionHeld3
import Derived.Lib.LaidTab
namespace Go.Proofs.YtlilefhmohkfkaaGreatDoor.E
open Go.RowKit
set_option linter.unusedVariables false
set_option maxRecDepth 100000
def laidL : List (String × DataW Unit) := Rows.effectJoinsRow.laid
def wName : String := Rows.effectJoinsRow.named.getD 0 ""
theorem door_met (os : Os) (args : Array Value) : laidMet Tryz.prog laidL ((World.doorLaid Tryz.prog 14 os).forCall (fun _ _ => 0) ⟨#[], args, []⟩).memory :=
 laidMet_of_run' 8 (by kernel_rfl) (by kernel_rfl)
def wDat : List (DataW Unit) := R.resL.map fun l => .lit (.string l)
theorem laid_list : laidL = [(wName, .slice wDat [])] := by kernel_rfl
theorem gWords : Tryz.prog.globalNamed wName = some 0 := by kernel_rfl
theorem gw_of_laid {W : World} (h : laidMetH Tryz.prog laidL W) : V.GW W := by
 rw [laid_list] at h
 have h0 : laidMet Tryz.prog [(wName, .slice wDat [])] W := h
 obtain ⟨ps, ⟨g, t, cs, fuel, p, q, hg, ht, hvar, hd, _, _⟩, _, _⟩ := h0
 obtain rfl := Option.some.inj (gWords.symm.trans hg)
 obtain rfl := Option.some.inj ((show (Tryz.prog.globals[0]?).map (·.type) = some 64 by kernel_rfl).symm.trans ht)
 obtain ⟨a, cap, hcs, hlc, hcell⟩ := open_row Tryz.underlying64 (by kernel_rfl) hd
 have hc0 := World.var?_cell gWords hvar 0
 have e0 : cs[0]? = some (.slice (some a) wDat.length cap) := by rw [<- Array.getElem?_toList, hcs]; rfl
 rw [e0] at hc0
 have hx : ∀ (i : Nat) (s : ByteArray), V.resN[i]? = some s -> W.cell? (a.add i) = some (.string s) := by
  intro i s hi
  unfold V.resN at hi
  rw [List.getElem?_map] at hi
  cases hl : R.resL[i]? with
  | none => rw [hl] at hi; cases hi
  | some l =>
   rw [hl] at hi
   cases hi
   obtain ⟨v, n, qq, hv, htr⟩ := hcell i (.lit (.string l)) (by unfold wDat; rw [List.getElem?_map, hl]; rfl)
   obtain ⟨s3, e3, h4, _⟩ := DataW.trod_string Tryz.underlying9 htr
   simp only [List.cons.injEq, and_true] at e3
   subst e3
   rw [hv]
   simp only [Prod.mk.injEq, DataW.lit.injEq, Lit.string.injEq] at h4
   obtain ⟨h4, _⟩ := h4
   subst h4
   rfl
 have hsp : a.spot = none := Y.add_none (hx 0 ⟨#[58]⟩ rfl)
 have hlt : 0 < W.heap.size := by
  have := World.block_lt_of_cell? W _ hc0
  exact this
 have hbl : a.block < W.heap.size := by
  have := World.block_lt_of_cell? W _ (hx 0 ⟨#[58]⟩ rfl)
  unfold Addr.add at this
  split at this <;> exact this
 obtain ⟨b, o, sp⟩ := a
 simp only at hsp
 subst hsp
 refine ⟨hlt, _, hc0, some ⟨b, o, none⟩, cap, by rfl, by decide, fun i s hi => ⟨b, o, rfl, hbl, ?_⟩⟩
 have := hx i s hi
 rw [Addr.add_lit] at this
 exact this
end Go.Proofs.YtlilefhmohkfkaaGreatDoor.E
