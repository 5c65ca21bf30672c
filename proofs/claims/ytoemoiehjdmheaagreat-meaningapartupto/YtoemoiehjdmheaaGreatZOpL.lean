import Derived.Test.YtoemoiehjdmheaaGreatYOpenR
import Derived.Test.YtoemoiehjdmheaaGreatZNew
import Derived.ChangeMaps5
import Derived.Lib.SmallJoins
import Derived.Carry
namespace Go.Proofs.YtoemoiehjdmheaaGreat.Z
open Go.RowKit Go.ChangeShapes Go.WideShapes Go.ChangeAt
open Go.Proofs
open Go.Proofs.YtoemoiehjdmheaaGreat.Y (Nd Df Ps Pl hid ZV BS add_none open_bytes2)
set_option linter.unusedVariables false
set_option linter.unusedSimpArgs false
set_option maxHeartbeats 4000000
set_option maxRecDepth 100000
theorem undL : Tryz.prog.underlying 50 = some (.struct #[⟨ "Budgets", 48, 0, false, "", "", 0⟩, ⟨ "Pads", 25, 1, false, "", "", 24⟩]) := by kernel_rfl
section
variable {H : Type} {enc : TypeId × Value -> H}
theorem open_is0 {W : World} {q : Nat} {cs : List Value} {x : DataW H × List MemPlace} (hf : DataW.trod enc Tryz.prog W 0 (fun _ => true) true q 48 cs = some x) :
  ∃ (l : List Int) (pp : Option Addr) (c : Nat), cs = [.slice pp l.length c] /\ Is W pp l := by
 rcases open_ints Tryz.underlying48 Tryz.underlying3 (by kernel_rfl) hf with ⟨hcs, hx⟩ | ⟨y, len, cap, zs, hcs, _, hl, hm, hz, hx, hcell, hwz⟩
 ·exact ⟨[], none, 0, hcs, fun i a hi => by simp at hi⟩
 ·simp only [if_true] at hz
  have hlen : (zs.take len).length = len := by simp; omega
  refine ⟨zs.take len, some y, cap, by rw [hlen]; exact hcs, fun i z hi => ?_⟩
  have hjl : i < len := by
   by_cases h : i < len
   ·exact h
   ·rw [List.getElem?_eq_none (by rw [hlen]; omega)] at hi; cases hi
  have hc := hcell i (by omega)
  rw [List.getElem?_take, if_pos hjl, List.getElem?_eq_getElem (by omega)] at hi
  simp only [Option.some.injEq] at hi
  subst hi
  have e : zs.getD i 0 = zs[i]'(by omega) := by simp [List.getD, List.getElem?_eq_getElem (show i < zs.length by omega)]
  rw [e] at hc
  have hsp : y.spot = none := add_none (hcell 0 (by omega))
  obtain ⟨b, o, sp⟩ := y
  simp only at hsp
  subst hsp
  rw [Addr.add_lit] at hc
  exact ⟨b, o, rfl, hc⟩
theorem open_life {W : World} {base : Nat} {v : Value} {d : DataW H} {p : List MemPlace} (hval : Value.okWide Tryz.prog W .any base 50 v) (h : DataW.Trod enc Tryz.prog W 0 (fun _ => true) true 50 v d p) (hk : Rows.uptoBulk d <= 1048576) :
  ∃ (zs : List Int) (zp : Option Addr) (zc : Nat) (pv : Value) (ps : List UInt8), v = .agg #[.slice zp zs.length zc, pv] /\ Is W zp zs /\ BS W (· < W.heap.size) pv ps /\ ps.length <= 1048576 := by
 obtain ⟨cs, rfl, hsz⟩ := okWide_struct undL hval
 obtain ⟨fuel, hf⟩ := h
 obtain ⟨xs, q, _, hxy, hcl, hxl, hff⟩ := DataW.trod_struct undL hf
 have hc2 : Tryz.prog.cellsOf 50 = 2 := by kernel_rfl
 rw [hc2] at hcl
 have k22 : Tryz.prog.cellsOf 25 = 1 := by kernel_rfl
 have k28 : Tryz.prog.cellsOf 48 = 1 := by kernel_rfl
 obtain ⟨l⟩ := cs
 simp [Value.cells] at hcl
 match l, hcl, xs, hxl with
 | [a0, a1], _, [x0, x1], _ =>
  have f0 : DataW.trod enc Tryz.prog W 0 (fun _ => true) true q 48 [a0] = some x0 := by simpa [k28, Value.cells] using hff 0 _ rfl
  have f1 : DataW.trod enc Tryz.prog W 0 (fun _ => true) true q 25 [a1] = some x1 := by simpa [k22, Value.cells] using hff 1 _ rfl
  have hd : d = .agg [x0.1, x1.1] := by
   simp only [Prod.mk.injEq] at hxy; rw [hxy.1]; rfl
  rw [hd] at hk
  simp only [Rows.uptoBulk, Rows.uptoBulkAll] at hk
  obtain ⟨zs, zp, zc, e0', hz⟩ := open_is0 f0
  obtain ⟨pv, ps, e1', hp, hb⟩ := open_bytes2 f1
  simp only [List.cons.injEq, and_true] at e0' e1'
  subst e0' e1'
  exact ⟨zs, zp, zc, _, ps, rfl, hz, hp, by omega⟩
end
end Go.Proofs.YtoemoiehjdmheaaGreat.Z
