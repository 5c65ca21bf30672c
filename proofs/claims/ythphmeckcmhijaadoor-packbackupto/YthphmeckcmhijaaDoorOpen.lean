import Derived.Test.YthphmeckcmhijaaDoorLaid
import Derived.Test.YthphmeckcmhijaaDoorSums
import Derived.Deep.Slices
/-! What arguments give a walk. -/
namespace Go.Proofs.YthphmeckcmhijaaDoor
open Go.RowKit Go.ChangeShapes Go.WideShapes Go.ChangeAt
set_option linter.unusedVariables false
section
variable {H : Type} {enc : TypeId × Value → H}
theorem open_bytes0 {W : World} {fuel : Nat} {cs : List Value} {x : DataW H × List MemPlace} (h : DataW.trod enc Tryd.prog W 0 (fun _ => true) true fuel 22 cs = some x) :
    ∃ (v : Value) (l : List UInt8), cs = [v] ∧ Sl W v l ∧ l.length + 1 ≤ Rows.uptoBulk x.1 ∧ ((x.1.weights Tryd.prog 22).all (· ≤ reachBytes) = true → l.length + 4096 ≤ room) := by
  have hcs : ∃ v, cs = [v] := by
    rcases open_ints Tryd.underlying22 Tryd.underlying5 (by kernel_rfl) h with ⟨hcs, hx⟩ | ⟨x, l, c, zs, hcs, _⟩
    · exact ⟨_, hcs⟩
    · exact ⟨_, hcs⟩
  obtain ⟨v, rfl⟩ := hcs
  have hv : ∃ a len cap, v = .slice a len cap := by
    rcases open_ints Tryd.underlying22 Tryd.underlying5 (by kernel_rfl) h with ⟨hcs, hx⟩ | ⟨x, l, c, zs, hcs, _⟩
    · simp at hcs; exact ⟨_, _, _, hcs⟩
    · simp at hcs; exact ⟨_, _, _, hcs⟩
  obtain ⟨a, len, cap, rfl⟩ := hv
  obtain ⟨l, h1, h2, h3⟩ := open_bytes1 (a := a) (len := len) (cap := cap) (d := x.1) (p := x.2) ⟨fuel, h⟩
  exact ⟨_, l, rfl, h1, h2, h3⟩
theorem bulk_flat (f : Nat → List UInt8) (D : Nat → DataW H) : ∀ (is : List Nat), (∀ i ∈ is, (f i).length ≤ Rows.uptoBulk (D i)) → ((is.map f).flatten).length ≤ Rows.uptoBulkAll (is.map D) := by
  intro is
  induction is with
  | nil => intro _; simp [Rows.uptoBulkAll]
  | cons i is ih =>
    intro h
    have h1 := h i (by simp)
    have h2 := ih (fun j hj => h j (by simp [hj]))
    simp only [List.map_cons, List.flatten_cons, List.length_append, Rows.uptoBulkAll]
    omega
theorem weights_all (P : Program) (e : TypeId) (D : Nat → DataW H) (q : Nat → Bool) : ∀ (is : List Nat), (DataW.weightsAll P e (is.map D)).all q = true → ∀ i ∈ is, ((D i).weights P e).all q = true := by
  intro is
  induction is with
  | nil => intro _ i hi; simp at hi
  | cons j is ih =>
    intro h i hi
    simp only [List.map_cons, DataW.weightsAll, List.all_append, Bool.and_eq_true] at h
    rcases List.mem_cons.1 hi with rfl | hi
    · exact h.1
    · exact ih h.2 i hi
/-- A slice of slices of bytes that came in. -/
theorem open_parts {W : World} {base : Nat} {v : Value} {d : DataW H} {p : List MemPlace} (hval : Value.okWide Tryd.prog W .any base 27 v) (h : DataW.Trod enc Tryd.prog W 0 (fun _ => true) true 27 v d p)
    (hw : (d.weights Tryd.prog 27).all (· ≤ reachBytes) = true) :
    ∃ (ls : List (List UInt8)) (pp : Option Addr) (c : Nat), v = .slice pp ls.length c ∧ PartsS W pp ls ∧ ls.length ≤ Rows.uptoBulk d ∧ ls.flatten.length ≤ Rows.uptoBulk d := by
  obtain ⟨a, len, cap, rfl⟩ := okWide_slice Tryd.underlying27 hval
  obtain ⟨fuel, hf⟩ := h
  rcases Deep.open_slice1 Tryd.underlying27 (by kernel_rfl) hf with ⟨hcs, hx⟩ | ⟨x, l, c, m, n, V, D, Pl, hcs, _, hl, hm, hmm, hx, hel⟩
  · simp [Value.cells] at hcs
    obtain ⟨rfl, rfl, rfl⟩ := hcs
    exact ⟨[], none, 0, rfl, fun i l hi => by simp at hi, by simp, by simp⟩
  · simp [Value.cells] at hcs
    obtain ⟨rfl, rfl, rfl⟩ := hcs
    simp only [Prod.mk.injEq] at hx
    obtain ⟨rfl, rfl⟩ := hx
    simp only [if_true] at hmm
    have hex : ∀ i, i < len → ∃ l : List UInt8, Sl W (V i) l ∧ l.length + 1 ≤ Rows.uptoBulk (D i) ∧ (((D i).weights Tryd.prog 22).all (· ≤ reachBytes) = true → l.length + 4096 ≤ room) := fun i hi => by
      obtain ⟨v, l, e, h1, h2, h3⟩ := open_bytes0 (hel i (by omega)).2
      simp at e; subst e
      exact ⟨l, h1, h2, h3⟩
    obtain ⟨f, hf2⟩ := Deep.choose_lt hex
    simp only [DataW.weights, Tryd.underlying27, List.all_cons, List.all_append, Bool.and_eq_true] at hw
    have hwi := weights_all Tryd.prog 22 D _ (List.range len) hw.2.1
    have hb1 := bulk_flat f D (List.range len) (fun i hi => by have := (hf2 i (by simpa using hi)).2.1; omega)
    have hb2 := bulk_len ((List.range len).map D)
    refine ⟨(List.range len).map f, some x, cap, by simp, fun i l hi => ?_, ?_, ?_⟩
    · have hil : i < len := by
        by_cases h : i < len
        · exact h
        · rw [List.getElem?_eq_none (by simp; omega)] at hi; cases hi
      simp [hil] at hi
      subst hi
      have := hf2 i hil
      exact ⟨x, V i, rfl, (hel i (by omega)).1, this.1, this.2.2 (hwi i (by simpa using hil))⟩
    · simp only [Rows.uptoBulk, List.length_map] at hb2 ⊢; omega
    · simp only [Rows.uptoBulk]; omega
end
end Go.Proofs.YthphmeckcmhijaaDoor
