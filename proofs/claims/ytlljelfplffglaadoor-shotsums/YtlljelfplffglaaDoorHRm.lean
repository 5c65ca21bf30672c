import Derived.Test.YtlljelfplffglaaDoorHArt
/-! The statements' own Roomy, Whole. -/
namespace Go.Proofs.YtlljelfplffglaaDoor.H
open Go.RowKit
open Go.Proofs
open Go.Proofs.YtlljelfplffglaaDoor.K
set_option linter.unusedVariables false
set_option linter.unusedSimpArgs false
set_option maxHeartbeats 2000000
set_option maxRecDepth 100000
def mks : List UInt8 := [77, 78, 79]
/-- A slice with room of its own behind it: the marks. -/
def Rmd (W : World) (B : Nat) (v : Value) (l : List UInt8) : Prop := ∃ g cap, v = .slice (some ⟨g, 0, none⟩) l.length cap ∧ Row W B (.slice (some ⟨g, 0, none⟩) (l.length + 3) cap) (l ++ mks)
theorem Rmd.below {W W' : World} {B : Nat} {v : Value} {l : List UInt8} (h : Rmd W B v l) (b : Below W.heap.size W W') : Rmd W' B v l := by
  obtain ⟨g, cap, e, hr⟩ := h
  exact ⟨g, cap, e, hr.below b⟩
theorem Sl.take {W : World} {p : Option Addr} {n c : Nat} {l : List UInt8} (h : Sl W (.slice p n c) l) (k : Nat) (hk : k ≤ l.length) : Sl W (.slice p k c) (l.take k) := by
  rcases h with ⟨e, rfl⟩ | ⟨x, c', e, hc, h⟩
  · simp only [List.length_nil, Nat.le_zero] at hk; subst hk
    simp only [Value.slice.injEq] at e
    obtain ⟨rfl, _, rfl⟩ := e
    exact .inl ⟨rfl, rfl⟩
  · simp only [Value.slice.injEq] at e
    obtain ⟨rfl, _, rfl⟩ := e
    refine .inr ⟨x, c, by rw [List.length_take, Nat.min_eq_left hk], by rw [List.length_take]; omega, fun j b hj => ?_⟩
    rw [List.getElem?_take] at hj
    split at hj
    · exact h j b hj
    · cases hj
theorem Rmd.sl {W : World} {B : Nat} {v : Value} {l : List UInt8} (h : Rmd W B v l) : Sl W v l := by
  obtain ⟨g, cap, rfl, hr⟩ := h
  have h1 := Sl.take hr.sl l.length (by simp)
  rw [List.take_left] at h1
  exact h1
theorem rowAt {W : World} {B g n cap : Nat} {l : List UInt8} (h : Row W B (.slice (some ⟨g, 0, none⟩) n cap) l) (j : Nat) (b : UInt8) (hj : l[j]? = some b) : W.cell? ⟨g, j, none⟩ = some (.int .u8 (b.toNat : Int)) := by
  have e := World.ownsRow.cells h (g := g) rfl j _ ((bv_get l j _).2 ⟨b, hj, rfl⟩)
  rw [Addr.add_lit] at e
  simpa using e
end Go.Proofs.YtlljelfplffglaaDoor.H
