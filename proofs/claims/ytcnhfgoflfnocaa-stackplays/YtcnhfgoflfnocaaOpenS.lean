import Derived.Test.YtcnhfgoflfnocaaOpen
import Derived.Test.YtcnhfgoflfnocaaLawP
/-! What a script that came in gives a walk. -/
namespace Go.Proofs.Ytcnhfgoflfnocaa
open Go.RowKit Go.ChangeShapes Go.WideShapes Go.ChangeAt
set_option linter.unusedVariables false
set_option linter.unusedSimpArgs false
section
variable {H : Type} {enc : TypeId × Value → H}
theorem und73 : Try.prog.underlying 73 = some (.struct #[⟨ "Kind", 3, 0, false, "", "", 0⟩, ⟨ "A", 3, 1, false, "", "", 8⟩, ⟨ "B", 3, 2, false, "", "", 16⟩, ⟨ "Cells", 22, 3, false, "", "", 24⟩, ⟨ "Ret", 44, 4, false, "", "", 48⟩]) := by kernel_rfl
theorem ls_of {α : Type} {e : α → List Value} {s : Nat} {W : World} {pp : Option Addr} {c : Nat} {l : List α} (h1 : l.length ≤ c) (h2 : pp = none → c = 0) (h3 : Sl e s W pp l) : Ls e s W (.slice pp l.length c) l := by
  cases pp with
  | none =>
    have hc := h2 rfl
    have hl : l = [] := List.eq_nil_of_length_eq_zero (by omega)
    subst hl hc
    exact .inl ⟨rfl, rfl⟩
  | some x => exact .inr ⟨x, c, rfl, h1, h3⟩
/-- One entry of a script. -/
theorem open_op {W : World} {n : Nat} {cs : List Value} {D : DataW H} {Pl : List MemPlace} (h : DataW.trod enc Try.prog W 0 (fun _ => true) true n 73 cs = some (D, Pl)) :
    ∃ t : OpD, cs = [.int .i64 t.k, .int .i64 t.a, .int .i64 t.b, t.v, t.u] ∧ Ls eU 1 W t.v t.l ∧ Ls eK 2 W t.u t.m ∧ ((D.weights Try.prog 73).all (· ≤ reachBytes) = true → t.l.length * 2 + 4096 ≤ room ∧ t.m.length * 16 + 4096 ≤ room) := by
  obtain ⟨xs, q, _, hxy, hcl, hxl, hf⟩ := DataW.trod_struct und73 h
  have hc5 : Try.prog.cellsOf 73 = 5 := by kernel_rfl
  rw [hc5] at hcl
  have c3 : Try.prog.cellsOf 3 = 1 := by kernel_rfl
  have c22 : Try.prog.cellsOf 22 = 1 := by kernel_rfl
  have c44 : Try.prog.cellsOf 44 = 1 := by kernel_rfl
  match xs, hxl, cs, hcl with
  | [x0, x1, x2, x3, x4], _, [a, b, c, d, e], _ =>
    have f0 := hf 0 _ rfl
    have f1 := hf 1 _ rfl
    have f2 := hf 2 _ rfl
    have f3 := hf 3 _ rfl
    have f4 := hf 4 _ rfl
    replace f0 : DataW.trod enc Try.prog W 0 (fun _ => true) true q 3 [a] = some x0 := by simpa [c3] using f0
    replace f1 : DataW.trod enc Try.prog W 0 (fun _ => true) true q 3 [b] = some x1 := by simpa [c3] using f1
    replace f2 : DataW.trod enc Try.prog W 0 (fun _ => true) true q 3 [c] = some x2 := by simpa [c3] using f2
    replace f3 : DataW.trod enc Try.prog W 0 (fun _ => true) true q 22 [d] = some x3 := by simpa [c22] using f3
    replace f4 : DataW.trod enc Try.prog W 0 (fun _ => true) true q 44 [e] = some x4 := by simpa [c44] using f4
    obtain ⟨k0, e0, _, _⟩ := DataW.trod_int Try.underlying3 f0
    obtain ⟨k1, e1, _, _⟩ := DataW.trod_int Try.underlying3 f1
    obtain ⟨k2, e2, _, _⟩ := DataW.trod_int Try.underlying3 f2
    obtain ⟨l, p3, c3', e3, g1, g2, g3, g4⟩ := open_us0 f3
    obtain ⟨m, p4, c4', e4, i1, i2, i3, i4⟩ := open_ks0 f4
    simp only [List.cons.injEq, and_true] at e0 e1 e2 e3 e4
    subst e0 e1 e2 e3 e4
    refine ⟨⟨k0, k1, k2, .slice p3 l.length c3', .slice p4 m.length c4', l, m⟩, rfl, ls_of g1 g2 g3, ls_of i1 i2 i3, fun hw => ?_⟩
    simp only [Prod.mk.injEq] at hxy
    rw [hxy.1] at hw
    simp only [DataW.weights, und73, List.map_cons, List.map_nil, DataW.weightsEach, List.all_append, Bool.and_eq_true] at hw
    exact ⟨g4 hw.2.2.2.1, i4 hw.2.2.2.2.1⟩
/-- A script that came in. -/
theorem open_script {W : World} {base : Nat} {v : Value} {d : DataW H} {p : List MemPlace} (hval : Value.okWide Try.prog W .any base 54 v) (h : DataW.Trod enc Try.prog W 0 (fun _ => true) true 54 v d p)
    (hw : (d.weights Try.prog 54).all (· ≤ reachBytes) = true) :
    ∃ (ps : List OpD) (pp : Option Addr) (c : Nat), v = .slice pp ps.length c ∧ ScS W pp ps ∧ ps.length ≤ 140737488355328 := by
  obtain ⟨a, len, cap, rfl⟩ := okWide_slice Try.underlying54 hval
  obtain ⟨fuel, hf⟩ := h
  rcases Deep.open_slice Try.underlying54 hf with ⟨hcs, hx⟩ | ⟨x, l, c, m, n, D, Pl, hcs, _, hl, hm, hmm, hx, hel⟩
  · simp [Value.cells] at hcs
    obtain ⟨rfl, rfl, rfl⟩ := hcs
    exact ⟨[], none, 0, rfl, fun i l hi => by simp at hi, by simp⟩
  · simp [Value.cells] at hcs
    obtain ⟨rfl, rfl, rfl⟩ := hcs
    simp only [Prod.mk.injEq] at hx
    obtain ⟨rfl, rfl⟩ := hx
    simp only [if_true] at hmm
    have hc5 : Try.prog.cellsOf 73 = 5 := by kernel_rfl
    rw [hc5] at hel
    have hby : Try.prog.bytesOf 73 = 72 := by kernel_rfl
    simp only [DataW.weights, Try.underlying54, List.all_cons, List.all_append, Bool.and_eq_true, decide_eq_true_eq, hby, List.length_map, List.length_range] at hw
    have hw1 := hw.1
    unfold reachBytes at hw1
    have hwi := weights_all Try.prog 73 _ _ (List.range len) hw.2.1
    have hsp0 : 0 < len → x.spot = none := fun hp => by
      obtain ⟨cs', h1, h2⟩ := hel 0 (by omega)
      obtain ⟨_, hlen, hcell⟩ := World.cells?_some h1
      obtain ⟨t, rfl, _, _, _⟩ := open_op h2
      have g0 := hcell 0 (by simp)
      rw [Deep.add_add] at g0
      exact add_none g0
    have hex : ∀ i, i < len → ∃ t : OpD, (∃ b o, some x = some (⟨b, o, none⟩ : Addr) ∧ W.cell? ⟨b, o + i * 5, none⟩ = some (.int .i64 t.k) ∧ W.cell? ⟨b, o + i * 5 + 1, none⟩ = some (.int .i64 t.a) ∧ W.cell? ⟨b, o + i * 5 + 2, none⟩ = some (.int .i64 t.b) ∧ W.cell? ⟨b, o + i * 5 + 3, none⟩ = some t.v ∧ W.cell? ⟨b, o + i * 5 + 4, none⟩ = some t.u) ∧
        Ls eU 1 W t.v t.l ∧ Ls eK 2 W t.u t.m ∧ t.l.length * 2 + 4096 ≤ room ∧ t.m.length * 16 + 4096 ≤ room := by
      intro i hi
      obtain ⟨cs', h1, h2⟩ := hel i (by omega)
      obtain ⟨_, hlen, hcell⟩ := World.cells?_some h1
      obtain ⟨t, rfl, hx, hy, hz⟩ := open_op h2
      have g0 := hcell 0 (by simp)
      have g1 := hcell 1 (by simp)
      have g2 := hcell 2 (by simp)
      have g3 := hcell 3 (by simp)
      have g4 := hcell 4 (by simp)
      simp only [List.getElem?_cons_zero, List.getElem?_cons_succ] at g0 g1 g2 g3 g4
      rw [Deep.add_add] at g0 g1 g2 g3 g4
      have hsp := hsp0 (by omega)
      obtain ⟨b, o, sp⟩ := x
      simp only at hsp
      subst hsp
      rw [add_at] at g0 g1 g2 g3 g4
      exact ⟨t, ⟨b, o, rfl, g0, by rw [Nat.add_assoc]; exact g1, by rw [Nat.add_assoc]; exact g2, by rw [Nat.add_assoc]; exact g3, by rw [Nat.add_assoc]; exact g4⟩, hx, hy, hz (hwi i (by simpa using hi))⟩
    have : Inhabited OpD := ⟨⟨0, 0, 0, .slice none 0 0, .slice none 0 0, [], []⟩⟩
    obtain ⟨f, hf2⟩ := Deep.choose_lt hex
    refine ⟨(List.range len).map f, some x, cap, by simp, fun i t hi => ?_, by simp; omega⟩
    have hil : i < len := by
      by_cases h : i < len
      · exact h
      · rw [List.getElem?_eq_none (by simp; omega)] at hi; cases hi
    simp [hil] at hi
    subst hi
    exact hf2 i hil
end
end Go.Proofs.Ytcnhfgoflfnocaa
