import Derived.Test.YtlljelfplffglabDoorHArt
/-! The statements' own Roomy, Whole. -/
namespace Go.Proofs.YtlljelfplffglabDoor.H
open Go.RowKit
open Go.Proofs
open Go.Proofs.YtlljelfplffglabDoor.K
set_option linter.unusedVariables false
set_option linter.unusedSimpArgs false
set_option maxHeartbeats 2000000
set_option maxRecDepth 100000
def mks : List UInt8 := [77, 78, 79]
/-- A slice with room of its own behind it: the marks. -/
def Rmd (W : World) (B : Nat) (v : Value) (l : List UInt8) : Prop := ∃ g cap, v = .slice (some ⟨g, 0, none⟩) l.length cap ∧ Row W B (.slice (some ⟨g, 0, none⟩) (l.length + 3) cap) (l ++ mks)
theorem Rmd.below {W W' : World} {B : Nat} {v : Value} {l : List UInt8} (h : Rmd W B v l) (b : Below W.heap.size W W') : Rmd W' B v l := by
  obtain ⟨g, cap, e, hr⟩ := h
  exact ⟨g, cap, e, hr.below b⟩
theorem Sl.take {W : World} {p : Option Addr} {n c : Nat} {l : List UInt8} (h : Sl W (.slice p n c) l) (k : Nat) (hk : k ≤ l.length) : Sl W (.slice p k c) (l.take k) := by
  rcases h with ⟨e, rfl⟩ | ⟨x, c', e, hc, h⟩
  · simp only [List.length_nil, Nat.le_zero] at hk; subst hk
    simp only [Value.slice.injEq] at e
    obtain ⟨rfl, _, rfl⟩ := e
    exact .inl ⟨rfl, rfl⟩
  · simp only [Value.slice.injEq] at e
    obtain ⟨rfl, _, rfl⟩ := e
    refine .inr ⟨x, c, by rw [List.length_take, Nat.min_eq_left hk], by rw [List.length_take]; omega, fun j b hj => ?_⟩
    rw [List.getElem?_take] at hj
    split at hj
    · exact h j b hj
    · cases hj
theorem Rmd.sl {W : World} {B : Nat} {v : Value} {l : List UInt8} (h : Rmd W B v l) : Sl W v l := by
  obtain ⟨g, cap, rfl, hr⟩ := h
  have h1 := Sl.take hr.sl l.length (by simp)
  rw [List.take_left] at h1
  exact h1
theorem roomy_any (v : Value) (l : List UInt8) (hl : l.length + 3 ≤ room) (w : World) (h : Sl w v l) :
    Calls Tryd.prog 12 #[v] w fun e w' => ∃ u, e = .returned u ∧ Rmd w' w.heap.size u l ∧ Below w.heap.size w w' := by
  have hr0 : Row (w.alloc (.cells #[] 5)) w.heap.size (.slice (some ⟨w.heap.size, 0, none⟩) 0 0) [] := row_of_alloc w w.heap.size (Nat.le_refl _) [] (by simp)
  have hb0 : Below w.heap.size w (w.alloc (.cells #[] 5)) := (Below.refl _ _).alloc (Nat.le_refl _) _
  have hs0 := h.below hb0
  obtain ⟨p, c, rfl, hbs⟩ := h.ex
  go_enter Tryd.func12, Tryd.ntmps12
  go_wp2_with (first | (at_builtin; refine wpList_append_bytes _ rfl _ _ rfl w.heap.size _ [] rfl hr0 _ l rfl hs0 (by simp; omega) hb0.size ?_))
  intro v' w' hr hg
  have hb1 : Below w.heap.size w w' := hg.belowAll (fun g e => (hr0.lt g e).1) hb0 (Nat.le_refl _)
  have hb2 : Below w.heap.size w (w'.alloc (.cells (bv mks).toArray 5)) := hb1.alloc hb1.size _
  have hm := (row_of_alloc w' w.heap.size hb1.size mks (by decide)).sl
  have hr1 : Row (w'.alloc (.cells (bv mks).toArray 5)) w.heap.size v' l := Row.below (by simpa using hr) ((Below.refl _ _).alloc (Nat.le_refl _) _)
  clear hg hr0 hs0
  go_wp2_with (first | (at_builtin; refine wpList_append_bytes _ rfl _ _ rfl w.heap.size _ l rfl hr1 _ mks rfl hm (by simp [mks]; omega) hb2.size ?_))
  intro v2 w2 hr2 hg2
  have hb3 : Below w.heap.size w w2 := hg2.belowAll (fun g e => (hr1.lt g e).1) hb2 (Nat.le_refl _)
  have hp := own_pos hr2 (by simp [mks])
  obtain ⟨g, cap, rfl⟩ := hp
  have hcap : l.length + 3 ≤ cap := by
    rcases hr2.2 with ⟨h, _⟩ | ⟨_, _, _, h, _, _, h2, _⟩
    · cases h
    · cases h; simp [mks] at h2; exact h2
  have hlen : (l ++ mks).length = l.length + 3 := by simp [mks]
  rw [hlen] at hr2 ⊢
  have i1 : (l.length : Int) ≤ cap := by omega
  go_wp2
  go_ret
  exact ⟨_, rfl, ⟨g, cap, rfl, hr2⟩, hb3⟩
theorem rowAt {W : World} {B g n cap : Nat} {l : List UInt8} (h : Row W B (.slice (some ⟨g, 0, none⟩) n cap) l) (j : Nat) (b : UInt8) (hj : l[j]? = some b) : W.cell? ⟨g, j, none⟩ = some (.int .u8 (b.toNat : Int)) := by
  have e := World.ownsRow.cells h (g := g) rfl j _ ((bv_get l j _).2 ⟨b, hj, rfl⟩)
  rw [Addr.add_lit] at e
  simpa using e
theorem whole_any (B : Nat) (v u : Value) (l : List UInt8) (hl : l.length + 3 ≤ room) (w : World) (h : Rmd w B v l) (hu : Sl w u l) :
    Calls Tryd.prog 17 #[v, u] w fun e w' => e = .returned (.bool true) ∧ w' = w := by
  have hsl := h.sl
  obtain ⟨g, cap, rfl, hr⟩ := h
  have hcap : l.length + 3 ≤ cap := by
    rcases hr.2 with ⟨h, _⟩ | ⟨_, _, _, h, _, _, h2, _⟩
    · cases h
    · simp only [Value.slice.injEq] at h; rw [h.2.2]; simpa [mks] using h2
  unfold room at hl
  have c1 := hsl.conv (by unfold maxLen; omega)
  have c2 := hu.conv (by unfold maxLen; omega)
  have hlen : (l ++ mks).length = l.length + 3 := by simp [mks]
  have g0 := rowAt hr l.length 77 (by simp [mks])
  have g1 := rowAt hr (l.length + 1) 78 (by simp [mks])
  have g2 := rowAt hr (l.length + 2) 79 (by simp [mks])
  clear hr hsl hlen
  obtain ⟨p, c, rfl, _⟩ := hu.ex
  have i1 : (l.length : Int) + 3 ≤ cap := by omega
  go_enter Tryd.func17, Tryd.ntmps17
  go_wp2
  go_ret
  exact ⟨rfl, rfl⟩
end Go.Proofs.YtlljelfplffglabDoor.H
