import Derived.Test.YteldjmecomngeaaGreatG12
/-! What a life gives a walk. -/
namespace Go.Proofs.YteldjmecomngeaaGreat.V
open Go.RowKit Go.ChangeShapes Go.WideShapes Go.ChangeAt
open Go.Proofs
set_option linter.unusedVariables false
set_option linter.unusedSimpArgs false
set_option maxRecDepth 100000
set_option maxHeartbeats 2000000
theorem list3 {α : Type} (l : List α) (h : l.length = 3) : ∃ a b c, l = [a, b, c] := by
  match l, h with
  | [a, b, c], _ => exact ⟨a, b, c, rfl⟩
theorem undL : Tryz.prog.underlying 68 = some (.struct #[⟨ "Pads", 22, 0, false, "", "", 0⟩, ⟨ "Budgets", 28, 1, false, "", "", 24⟩, ⟨ "At", 3, 2, false, "", "", 48⟩]) := by kernel_rfl
section
variable {H : Type} {enc : TypeId × Value → H}
theorem open_is0 {W : World} {q : Nat} {a : Value} {x : DataW H × List MemPlace} (hf : DataW.trod enc Tryz.prog W 0 (fun _ => true) true q 28 [a] = some x) :
    ∃ (l : List Int) (pp : Option Addr) (c : Nat), a = .slice pp l.length c ∧ Is W pp l := by
  rcases open_ints Tryz.underlying28 Tryz.underlying3 (by kernel_rfl) hf with ⟨hcs, hx⟩ | ⟨y, len, cap, zs, hcs, _, hl, hm, hz, hx, hcell, hwz⟩
  · simp at hcs
    exact ⟨[], none, 0, hcs, fun i a hi => by simp at hi⟩
  · simp at hcs
    simp only [if_true] at hz
    have hlen : (zs.take len).length = len := by simp; omega
    refine ⟨zs.take len, some y, cap, by rw [hlen]; exact hcs, fun i z hi => ?_⟩
    have hjl : i < len := by
      by_cases h : i < len
      · exact h
      · rw [List.getElem?_eq_none (by rw [hlen]; omega)] at hi; cases hi
    have hc := hcell i (by omega)
    rw [List.getElem?_take, if_pos hjl, List.getElem?_eq_getElem (by omega)] at hi
    simp only [Option.some.injEq] at hi
    subst hi
    have e : zs.getD i 0 = zs[i]'(by omega) := by simp [List.getD, List.getElem?_eq_getElem (show i < zs.length by omega)]
    rw [e] at hc
    have hsp : y.spot = none := T.add_none (hcell 0 (by omega))
    obtain ⟨b, o, sp⟩ := y
    simp only at hsp
    subst hsp
    rw [T.add_at] at hc
    exact ⟨b, o, rfl, hc⟩
theorem open_life {W : World} {base : Nat} {v : Value} {d : DataW H} {p : List MemPlace} (hval : Value.okWide Tryz.prog W .any base 68 v) (h : DataW.Trod enc Tryz.prog W 0 (fun _ => true) true 68 v d p) :
    ∃ (ps : List UInt8) (pp : Option Addr) (pc : Nat) (zs : List Int) (zp : Option Addr) (zc : Nat) (at_ : Int), v = .agg #[.slice pp ps.length pc, .slice zp zs.length zc, .int .i64 at_] ∧ M.Sl W (.slice pp ps.length pc) ps ∧ Is W zp zs := by
  obtain ⟨cs, rfl, hsz⟩ := okWide_struct undL hval
  obtain ⟨fuel, hf⟩ := h
  obtain ⟨xs, q, _, hxy, hcl, hxl, hff⟩ := DataW.trod_struct undL hf
  have hc3 : Tryz.prog.cellsOf 68 = 3 := by kernel_rfl
  rw [hc3] at hcl
  have k22 : Tryz.prog.cellsOf 22 = 1 := by kernel_rfl
  have k28 : Tryz.prog.cellsOf 28 = 1 := by kernel_rfl
  have k3 : Tryz.prog.cellsOf 3 = 1 := by kernel_rfl
  have hcs : ∃ a0 a1 a2, cs = #[a0, a1, a2] := by
    obtain ⟨l⟩ := cs
    simp [Value.cells] at hcl
    obtain ⟨a0, a1, a2, e⟩ := list3 l hcl
    exact ⟨a0, a1, a2, by rw [e]⟩
  obtain ⟨a0, a1, a2, rfl⟩ := hcs
  obtain ⟨x0, x1, x2, rfl⟩ := list3 xs hxl
  have f0 := hff 0 _ rfl
  have f1 := hff 1 _ rfl
  have f2 := hff 2 _ rfl
  replace f0 : DataW.trod enc Tryz.prog W 0 (fun _ => true) true q 22 [a0] = some x0 := by simpa [k22, Value.cells] using f0
  replace f1 : DataW.trod enc Tryz.prog W 0 (fun _ => true) true q 28 [a1] = some x1 := by simpa [k28, Value.cells] using f1
  replace f2 : DataW.trod enc Tryz.prog W 0 (fun _ => true) true q 3 [a2] = some x2 := by simpa [k3, Value.cells] using f2
  obtain ⟨kv, ps, ek, hk, _⟩ := T.open_bytes0 f0
  simp at ek
  subst ek
  obtain ⟨pp, pc, rfl, _⟩ := hk.ex
  obtain ⟨zs, zp, zc, rfl, hz⟩ := open_is0 f1
  obtain ⟨z, e1, _, _⟩ := DataW.trod_int Tryz.underlying3 f2
  simp at e1
  subst e1
  exact ⟨ps, pp, pc, zs, zp, zc, z, rfl, hk, hz⟩
end
end Go.Proofs.YteldjmecomngeaaGreat.V
