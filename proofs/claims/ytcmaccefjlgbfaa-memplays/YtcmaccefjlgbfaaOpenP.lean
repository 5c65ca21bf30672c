import Derived.Test.YtcmaccefjlgbfaaOpen
import Derived.Test.YtcmaccefjlgbfaaLk
/-! What a script that came in gives a walk. -/
namespace Go.Proofs.Ytcmaccefjlgbfaa
open Go.RowKit Go.ChangeShapes Go.WideShapes Go.ChangeAt
set_option linter.unusedVariables false
set_option linter.unusedSimpArgs false
section
variable {H : Type} {enc : TypeId × Value → H}
theorem und76 : Try.prog.underlying 76 = some (.struct #[⟨ "Kind", 3, 0, false, "", "", 0⟩, ⟨ "Which", 3, 1, false, "", "", 8⟩, ⟨ "At", 23, 2, false, "", "", 16⟩, ⟨ "X", 23, 3, false, "", "", 18⟩, ⟨ "Y", 23, 4, false, "", "", 20⟩, ⟨ "C", 23, 5, false, "", "", 22⟩, ⟨ "N", 3, 6, false, "", "", 24⟩]) := by kernel_rfl
theorem und65 : Try.prog.underlying 65 = some (.slice 76) := by kernel_rfl
/-- One entry of a script. -/
theorem open_op {W : World} {n : Nat} {cs : List Value} {D : DataW H} {Pl : List MemPlace} (h : DataW.trod enc Try.prog W 0 (fun _ => true) true n 76 cs = some (D, Pl)) :
    ∃ t : Op7, cs = [.int .i64 t.k, .int .i64 t.wh, .int .u16 t.at_, .int .u16 t.x, .int .u16 t.y, .int .u16 t.c, .int .i64 t.n] ∧ 0 ≤ t.at_ ∧ t.at_ < 65536 ∧ 0 ≤ t.x ∧ t.x < 65536 ∧ 0 ≤ t.y ∧ t.y < 65536 := by
  obtain ⟨xs, q, _, hxy, hcl, hxl, hf⟩ := DataW.trod_struct und76 h
  have hc7 : Try.prog.cellsOf 76 = 7 := by kernel_rfl
  rw [hc7] at hcl
  have c3 : Try.prog.cellsOf 3 = 1 := by kernel_rfl
  have c23 : Try.prog.cellsOf 23 = 1 := by kernel_rfl
  match xs, hxl, cs, hcl with
  | [x0, x1, x2, x3, x4, x5, x6], _, [a, b, c, d, e, f, g], _ =>
    have f0 := hf 0 _ rfl
    have f1 := hf 1 _ rfl
    have f2 := hf 2 _ rfl
    have f3 := hf 3 _ rfl
    have f4 := hf 4 _ rfl
    have f5 := hf 5 _ rfl
    have f6 := hf 6 _ rfl
    replace f0 : DataW.trod enc Try.prog W 0 (fun _ => true) true q 3 [a] = some x0 := by simpa [c3] using f0
    replace f1 : DataW.trod enc Try.prog W 0 (fun _ => true) true q 3 [b] = some x1 := by simpa [c3] using f1
    replace f2 : DataW.trod enc Try.prog W 0 (fun _ => true) true q 23 [c] = some x2 := by simpa [c23] using f2
    replace f3 : DataW.trod enc Try.prog W 0 (fun _ => true) true q 23 [d] = some x3 := by simpa [c23] using f3
    replace f4 : DataW.trod enc Try.prog W 0 (fun _ => true) true q 23 [e] = some x4 := by simpa [c23] using f4
    replace f5 : DataW.trod enc Try.prog W 0 (fun _ => true) true q 23 [f] = some x5 := by simpa [c23] using f5
    replace f6 : DataW.trod enc Try.prog W 0 (fun _ => true) true q 3 [g] = some x6 := by simpa [c3] using f6
    obtain ⟨k0, e0, _, _⟩ := DataW.trod_int Try.underlying3 f0
    obtain ⟨k1, e1, _, _⟩ := DataW.trod_int Try.underlying3 f1
    obtain ⟨k2, e2, _, w2⟩ := DataW.trod_int Try.underlying23 f2
    obtain ⟨k3, e3, _, w3⟩ := DataW.trod_int Try.underlying23 f3
    obtain ⟨k4, e4, _, w4⟩ := DataW.trod_int Try.underlying23 f4
    obtain ⟨k5, e5, _, w5⟩ := DataW.trod_int Try.underlying23 f5
    obtain ⟨k6, e6, _, _⟩ := DataW.trod_int Try.underlying3 f6
    simp only [List.cons.injEq, and_true] at e0 e1 e2 e3 e4 e5 e6
    subst e0 e1 e2 e3 e4 e5 e6
    have b2 := bounds_u16 w2
    have b3 := bounds_u16 w3
    have b4 := bounds_u16 w4
    exact ⟨⟨k0, k1, k2, k3, k4, k5, k6⟩, rfl, by simp only; omega, by simp only; omega, by simp only; omega, by simp only; omega, by simp only; omega, by simp only; omega⟩
/-- A script that came in. -/
theorem open_script {W : World} {base : Nat} {v : Value} {d : DataW H} {p : List MemPlace} (hval : Value.okWide Try.prog W .any base 65 v) (h : DataW.Trod enc Try.prog W 0 (fun _ => true) true 65 v d p)
    (hw : (d.weights Try.prog 65).all (· ≤ reachBytes) = true) :
    ∃ (ps : List Op7) (pp : Option Addr) (c : Nat), v = .slice pp ps.length c ∧ ScS W pp ps ∧ ps.length ≤ 140737488355328 := by
  obtain ⟨a, len, cap, rfl⟩ := okWide_slice und65 hval
  obtain ⟨fuel, hf⟩ := h
  rcases Deep.open_slice und65 hf with ⟨hcs, hx⟩ | ⟨x, l, c, m, n, D, Pl, hcs, _, hl, hm, hmm, hx, hel⟩
  · simp [Value.cells] at hcs
    obtain ⟨rfl, rfl, rfl⟩ := hcs
    exact ⟨[], none, 0, rfl, fun i l hi => by simp at hi, by simp⟩
  · simp [Value.cells] at hcs
    obtain ⟨rfl, rfl, rfl⟩ := hcs
    simp only [Prod.mk.injEq] at hx
    obtain ⟨rfl, rfl⟩ := hx
    simp only [if_true] at hmm
    have hc7 : Try.prog.cellsOf 76 = 7 := by kernel_rfl
    rw [hc7] at hel
    have hby : Try.prog.bytesOf 76 = 32 := by kernel_rfl
    simp only [DataW.weights, und65, List.all_cons, List.all_append, Bool.and_eq_true, decide_eq_true_eq, hby, List.length_map, List.length_range] at hw
    have hw1 := hw.1
    unfold reachBytes at hw1
    have hsp0 : 0 < len → x.spot = none := fun hp => by
      obtain ⟨cs', h1, h2⟩ := hel 0 (by omega)
      obtain ⟨_, hlen, hcell⟩ := World.cells?_some h1
      obtain ⟨t, rfl, _⟩ := open_op h2
      have g0 := hcell 0 (by simp)
      rw [Deep.add_add] at g0
      exact add_none g0
    have hex : ∀ i, i < len → ∃ t : Op7, (∃ b o, some x = some (⟨b, o, none⟩ : Addr) ∧ W.cell? ⟨b, o + i * 7, none⟩ = some (.int .i64 t.k) ∧ W.cell? ⟨b, o + i * 7 + 1, none⟩ = some (.int .i64 t.wh) ∧ W.cell? ⟨b, o + i * 7 + 2, none⟩ = some (.int .u16 t.at_) ∧ W.cell? ⟨b, o + i * 7 + 3, none⟩ = some (.int .u16 t.x) ∧ W.cell? ⟨b, o + i * 7 + 4, none⟩ = some (.int .u16 t.y) ∧ W.cell? ⟨b, o + i * 7 + 5, none⟩ = some (.int .u16 t.c) ∧ W.cell? ⟨b, o + i * 7 + 6, none⟩ = some (.int .i64 t.n)) ∧
        0 ≤ t.at_ ∧ t.at_ < 65536 ∧ 0 ≤ t.x ∧ t.x < 65536 ∧ 0 ≤ t.y ∧ t.y < 65536 := by
      intro i hi
      obtain ⟨cs', h1, h2⟩ := hel i (by omega)
      obtain ⟨_, hlen, hcell⟩ := World.cells?_some h1
      obtain ⟨t, rfl, hb⟩ := open_op h2
      have g0 := hcell 0 (by simp)
      have g1 := hcell 1 (by simp)
      have g2 := hcell 2 (by simp)
      have g3 := hcell 3 (by simp)
      have g4 := hcell 4 (by simp)
      have g5 := hcell 5 (by simp)
      have g6 := hcell 6 (by simp)
      simp only [List.getElem?_cons_zero, List.getElem?_cons_succ] at g0 g1 g2 g3 g4 g5 g6
      rw [Deep.add_add] at g0 g1 g2 g3 g4 g5 g6
      have hsp := hsp0 (by omega)
      obtain ⟨b, o, sp⟩ := x
      simp only at hsp
      subst hsp
      rw [add_at] at g0 g1 g2 g3 g4 g5 g6
      exact ⟨t, ⟨b, o, rfl, g0, by rw [Nat.add_assoc]; exact g1, by rw [Nat.add_assoc]; exact g2, by rw [Nat.add_assoc]; exact g3, by rw [Nat.add_assoc]; exact g4, by rw [Nat.add_assoc]; exact g5, by rw [Nat.add_assoc]; exact g6⟩, hb⟩
    have : Inhabited Op7 := ⟨⟨0, 0, 0, 0, 0, 0, 0⟩⟩
    obtain ⟨f, hf2⟩ := Deep.choose_lt hex
    refine ⟨(List.range len).map f, some x, cap, by simp, fun i t hi => ?_, by simp; omega⟩
    have hil : i < len := by
      by_cases h : i < len
      · exact h
      · rw [List.getElem?_eq_none (by simp; omega)] at hi; cases hi
    simp [hil] at hi
    subst hi
    exact hf2 i hil
end
end Go.Proofs.Ytcmaccefjlgbfaa
