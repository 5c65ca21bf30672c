import Derived.Test.YthphmeckcmhijaaDoorOpen
import Derived.Test.YthphmeckcmhijaaDoorScripts
import Derived.Deep.SlicePairs
/-! What the scripts that came in give a walk. -/
namespace Go.Proofs.YthphmeckcmhijaaDoor
open Go.RowKit Go.ChangeShapes Go.WideShapes Go.ChangeAt
set_option linter.unusedVariables false
section
variable {H : Type} {enc : TypeId × Value → H}
theorem und39 : Tryd.prog.underlying 39 = some (.struct #[⟨ "Kind", 3, 0, false, "", "", 0⟩, ⟨ "N", 3, 1, false, "", "", 8⟩, ⟨ "B", 22, 2, false, "", "", 16⟩]) := by kernel_rfl
theorem und53 : Tryd.prog.underlying 53 = some (.struct #[⟨ "Kind", 3, 0, false, "", "", 0⟩, ⟨ "N", 3, 1, false, "", "", 8⟩]) := by kernel_rfl
theorem add_none {a : Addr} {W : World} {v : Value} (h : W.cell? (a.add 0) = some v) : a.spot = none := by
  have := World.cell?_spot h
  simpa [Addr.add] using this
theorem add_at (b o k : Nat) : (⟨b, o, none⟩ : Addr).add k = ⟨b, o + k, none⟩ := Addr.add_lit _ _ _
/-- One entry of a writer's script. -/
theorem open_put {W : World} {n : Nat} {cs : List Value} {D : DataW H} {Pl : List MemPlace} (h : DataW.trod enc Tryd.prog W 0 (fun _ => true) true n 39 cs = some (D, Pl)) :
    ∃ (k m : Int) (vB : Value) (l : List UInt8), cs = [.int .i64 k, .int .i64 m, vB] ∧ Sl W vB l ∧ l.length + 1 ≤ Rows.uptoBulk D ∧ (Lit.int .i64 k).wf = true ∧ (Lit.int .i64 m).wf = true := by
  obtain ⟨xs, q, _, hxy, hcl, hxl, hf⟩ := DataW.trod_struct und39 h
  have hc3 : Tryd.prog.cellsOf 39 = 3 := by kernel_rfl
  rw [hc3] at hcl
  have c3 : Tryd.prog.cellsOf 3 = 1 := by kernel_rfl
  have c22 : Tryd.prog.cellsOf 22 = 1 := by kernel_rfl
  match xs, hxl, cs, hcl with
  | [x0, x1, x2], _, [a, b, c], _ =>
    have f0 := hf 0 _ rfl
    have f1 := hf 1 _ rfl
    have f2 := hf 2 _ rfl
    replace f0 : DataW.trod enc Tryd.prog W 0 (fun _ => true) true q 3 [a] = some x0 := by simpa [c3] using f0
    replace f1 : DataW.trod enc Tryd.prog W 0 (fun _ => true) true q 3 [b] = some x1 := by simpa [c3] using f1
    replace f2 : DataW.trod enc Tryd.prog W 0 (fun _ => true) true q 22 [c] = some x2 := by simpa [c22] using f2
    obtain ⟨k, e0, _, w0⟩ := DataW.trod_int Tryd.underlying3 f0
    obtain ⟨m, e1, _, w1⟩ := DataW.trod_int Tryd.underlying3 f1
    obtain ⟨vB, l, e2, hs, hb, _⟩ := open_bytes0 f2
    simp at e0 e1 e2
    subst e0 e1 e2
    refine ⟨k, m, c, l, rfl, hs, ?_, w0, w1⟩
    simp only [Prod.mk.injEq] at hxy
    rw [hxy.1]
    simp only [List.map_cons, List.map_nil, Rows.uptoBulk, Rows.uptoBulkAll]
    omega
theorem bulk_mem {d : DataW H} {l : List (DataW H)} (h : d ∈ l) : Rows.uptoBulk d ≤ Rows.uptoBulkAll l := by
  induction l with
  | nil => cases h
  | cons x r ih =>
    simp only [Rows.uptoBulkAll]
    rcases List.mem_cons.1 h with e | e
    · subst e; omega
    · have := ih e; omega
/-- A writer's script that came in. -/
theorem open_puts {W : World} {base : Nat} {v : Value} {d : DataW H} {p : List MemPlace} (hval : Value.okWide Tryd.prog W .any base 33 v) (h : DataW.Trod enc Tryd.prog W 0 (fun _ => true) true 33 v d p)
    (hb : Rows.uptoBulk d ≤ 1048576) :
    ∃ (ps : List (Int × Int × List UInt8)) (pp : Option Addr) (c : Nat), v = .slice pp ps.length c ∧ PutsS W pp ps ∧ ps.length ≤ 1048576 := by
  obtain ⟨a, len, cap, rfl⟩ := okWide_slice Tryd.underlying33 hval
  obtain ⟨fuel, hf⟩ := h
  rcases Deep.open_slice Tryd.underlying33 hf with ⟨hcs, hx⟩ | ⟨x, l, c, m, n, D, Pl, hcs, _, hl, hm, hmm, hx, hel⟩
  · simp [Value.cells] at hcs
    obtain ⟨rfl, rfl, rfl⟩ := hcs
    exact ⟨[], none, 0, rfl, fun i l hi => by simp at hi, by simp⟩
  · simp [Value.cells] at hcs
    obtain ⟨rfl, rfl, rfl⟩ := hcs
    simp only [Prod.mk.injEq] at hx
    obtain ⟨rfl, rfl⟩ := hx
    simp only [if_true] at hmm
    have hc3 : Tryd.prog.cellsOf 39 = 3 := by kernel_rfl
    rw [hc3] at hel
    have hbl := bulk_len ((List.range len).map D)
    simp only [Rows.uptoBulk, List.length_map, List.length_range] at hb hbl
    have hsp0 : 0 < len → x.spot = none := fun hp => by
      obtain ⟨cs', h1, h2⟩ := hel 0 (by omega)
      obtain ⟨_, hlen, hcell⟩ := World.cells?_some h1
      obtain ⟨k, m2, vB, l, rfl, hs, hbk, w0, w1⟩ := open_put h2
      have g0 := hcell 0 (by decide)
      rw [Deep.add_add] at g0
      exact add_none g0
    have hex : ∀ i, i < len → ∃ t : Int × Int × List UInt8, (∃ b o vB, some x = some (⟨b, o, none⟩ : Addr) ∧ W.cell? ⟨b, o + i * 3, none⟩ = some (.int .i64 t.1) ∧ W.cell? ⟨b, o + i * 3 + 1, none⟩ = some (.int .i64 t.2.1) ∧ W.cell? ⟨b, o + i * 3 + 2, none⟩ = some vB ∧ Sl W vB t.2.2 ∧ t.2.2.length ≤ 1048576 ∧ (Lit.int .i64 t.1).wf = true ∧ (Lit.int .i64 t.2.1).wf = true) := fun i hi => by
      obtain ⟨cs', h1, h2⟩ := hel i (by omega)
      obtain ⟨_, hlen, hcell⟩ := World.cells?_some h1
      obtain ⟨k, m2, vB, l, rfl, hs, hbk, w0, w1⟩ := open_put h2
      have g0 := hcell 0 (by decide)
      have g1 := hcell 1 (by decide)
      have g2 := hcell 2 (by decide)
      simp only [List.getElem?_cons_zero, List.getElem?_cons_succ] at g0 g1 g2
      rw [Deep.add_add] at g0 g1 g2
      have hsp := hsp0 (by omega)
      obtain ⟨b, o, sp⟩ := x
      simp only at hsp
      subst hsp
      rw [add_at] at g0 g1 g2
      have hbm : Rows.uptoBulk (D i) ≤ Rows.uptoBulkAll ((List.range len).map D) := bulk_mem (List.mem_map.2 ⟨i, by simpa using hi, rfl⟩)
      exact ⟨(k, m2, l), b, o, vB, rfl, g0, by rw [Nat.add_assoc]; exact g1, by rw [Nat.add_assoc]; exact g2, hs, by show l.length ≤ 1048576; omega, w0, w1⟩
    obtain ⟨f, hf2⟩ := Deep.choose_lt hex
    refine ⟨(List.range len).map f, some x, cap, by simp, fun i t hi => ?_, by simp; omega⟩
    have hil : i < len := by
      by_cases h : i < len
      · exact h
      · rw [List.getElem?_eq_none (by simp; omega)] at hi; cases hi
    simp [hil] at hi
    subst hi
    exact hf2 i hil
/-- A reader's script that came in. -/
theorem open_takes {W : World} {base : Nat} {v : Value} {d : DataW H} {p : List MemPlace} (hval : Value.okWide Tryd.prog W .any base 45 v) (h : DataW.Trod enc Tryd.prog W 0 (fun _ => true) true 45 v d p)
    (hw : (d.weights Tryd.prog 45).all (· ≤ reachBytes) = true) :
    ∃ (ts : List (Int × Int)) (pp : Option Addr) (c : Nat), v = .slice pp ts.length c ∧ TakesS W pp ts ∧ ts.length ≤ room := by
  obtain ⟨a, len, cap, rfl⟩ := okWide_slice Tryd.underlying45 hval
  obtain ⟨fuel, hf⟩ := h
  rcases Deep.open_slice_pairs Tryd.underlying45 und53 (by kernel_rfl) rfl rfl (by kernel_rfl) (by kernel_rfl) hf with ⟨hcs, hx⟩ | ⟨x, l, c, m, n, V0, V1, D0, D1, P0, P1, hcs, _, hl, hm, hmm, hx, hel⟩
  · simp [Value.cells] at hcs
    obtain ⟨rfl, rfl, rfl⟩ := hcs
    exact ⟨[], none, 0, rfl, fun i l hi => by simp at hi, by simp⟩
  · simp [Value.cells] at hcs
    obtain ⟨rfl, rfl, rfl⟩ := hcs
    simp only [Prod.mk.injEq] at hx
    obtain ⟨rfl, rfl⟩ := hx
    simp only [if_true] at hmm
    have hby : Tryd.prog.bytesOf 53 = 16 := by kernel_rfl
    simp only [DataW.weights, Tryd.underlying45, List.all_cons, Bool.and_eq_true, decide_eq_true_eq, hby, List.length_map, List.length_range] at hw
    have hw1 := hw.1
    unfold reachBytes at hw1
    have hsp0 : 0 < len → x.spot = none := fun hp => add_none (hel 0 (by omega)).1
    have hex : ∀ i, i < len → ∃ t : Int × Int, (∃ b o, some x = some (⟨b, o, none⟩ : Addr) ∧ W.cell? ⟨b, o + i * 2, none⟩ = some (.int .i64 t.1) ∧ W.cell? ⟨b, o + i * 2 + 1, none⟩ = some (.int .i64 t.2) ∧ (Lit.int .i64 t.1).wf = true ∧ (Lit.int .i64 t.2).wf = true) := fun i hi => by
      obtain ⟨g0, g1, t0, t1⟩ := hel i (by omega)
      obtain ⟨k, e0, _, w0⟩ := DataW.trod_int Tryd.underlying3 t0
      obtain ⟨m2, e1, _, w1⟩ := DataW.trod_int Tryd.underlying3 t1
      simp at e0 e1
      rw [e0] at g0
      rw [e1] at g1
      have hsp := hsp0 (by omega)
      obtain ⟨b, o, sp⟩ := x
      simp only at hsp
      subst hsp
      rw [add_at] at g0 g1
      exact ⟨(k, m2), b, o, rfl, g0, by rw [Nat.add_assoc]; exact g1, w0, w1⟩
    obtain ⟨f, hf2⟩ := Deep.choose_lt hex
    refine ⟨(List.range len).map f, some x, cap, by simp, fun i t hi => ?_, by simp; unfold room; omega⟩
    have hil : i < len := by
      by_cases h : i < len
      · exact h
      · rw [List.getElem?_eq_none (by simp; omega)] at hi; cases hi
    simp [hil] at hi
    subst hi
    exact hf2 i hil
end
end Go.Proofs.YthphmeckcmhijaaDoor
