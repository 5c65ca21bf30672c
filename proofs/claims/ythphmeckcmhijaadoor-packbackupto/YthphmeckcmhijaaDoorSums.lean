import Derived.Test.YthphmeckcmhijaaDoorTurned
/-! PackSums' walk. -/
namespace Go.Proofs.YthphmeckcmhijaaDoor
open Go.RowKit
set_option linter.unusedVariables false

theorem below_drewN {B : Nat} {W W' : World} (h : Below B W W') (q : Nat) : Below B W (W'.drewN q) := h.trans ⟨rfl, rfl, rfl, Nat.le_refl _, fun _ _ => rfl⟩
theorem Parts.below {W W' : World} {p : Option Addr} {ls : List (List UInt8)} (h : Parts W p ls) (b : Below W.heap.size W W') : Parts W' p ls := fun i l hi => by
  obtain ⟨x, q, c, e, h1, h2, h3⟩ := h i l hi
  exact ⟨x, q, c, e, by rw [b.cell (World.block_lt_of_cell? W _ h1)]; exact h1, h2.below b, h3⟩
/-- The parts with their slices' whole facts. -/
def PartsS (W : World) (p : Option Addr) (ls : List (List UInt8)) : Prop := ∀ i l, ls[i]? = some l → ∃ x v, p = some x ∧ W.cell? (x.add i) = some v ∧ Sl W v l ∧ l.length + 4096 ≤ room
theorem PartsS.below {W W' : World} {p : Option Addr} {ls : List (List UInt8)} (h : PartsS W p ls) (b : Below W.heap.size W W') : PartsS W' p ls := fun i l hi => by
  obtain ⟨x, v, e, h1, h2, h3⟩ := h i l hi
  exact ⟨x, v, e, by rw [b.cell (World.block_lt_of_cell? W _ h1)]; exact h1, h2.below b, h3⟩
theorem PartsS.parts {W : World} {p : Option Addr} {ls : List (List UInt8)} (h : PartsS W p ls) : Parts W p ls := fun i l hi => by
  obtain ⟨x, v, e, h1, h2, h3⟩ := h i l hi
  obtain ⟨q, c, rfl, hb⟩ := h2.ex
  exact ⟨x, q, c, e, h1, hb, by unfold maxLen; unfold room at h3; omega⟩
theorem flat_take_le (ls : List (List UInt8)) (k : Nat) : (ls.take k).flatten.length ≤ ls.flatten.length := by
  have : ls.flatten = (ls.take k).flatten ++ (ls.drop k).flatten := by rw [← List.flatten_append, List.take_append_drop]
  rw [this, List.length_append]; omega
theorem flat_step (ls : List (List UInt8)) (k : Nat) (h : k < ls.length) : (ls.take (k + 1)).flatten = (ls.take k).flatten ++ ls[k] := by
  rw [List.take_succ_eq_append_getElem h, List.flatten_append, List.flatten_cons, List.flatten_nil, List.append_nil]

set_option maxHeartbeats 1000000 in
set_option maxRecDepth 100000 in
theorem join_any (p : Option Addr) (c : Nat) (ls : List (List UInt8)) (hl : ls.flatten.length ≤ room) (hn : ls.length ≤ maxLen) (w : World) (h : PartsS w p ls) :
    Calls Tryd.prog 11 #[.slice p ls.length c] w fun r w' => ∃ u, r = .returned u ∧ Row w' w.heap.size u ls.flatten ∧ Below w.heap.size w w' := by
  unfold maxLen at hn
  go_enter Tryd.func11, Tryd.ntmps11
  go_wp2
  go_loopw [3, 4] (fun vb i wr => ∃ k : Nat, k ≤ ls.length ∧ i = .int .i64 (k : Int) ∧ Row wr w.heap.size vb (ls.take k).flatten ∧ Below w.heap.size w wr) (fun _ i _ => ls.length - (intOf i).toNat)
  case atStart => exact ⟨0, by omega, rfl, row_nil _ _, Below.refl _ _⟩
  case round =>
    rename_i vb _ _
    obtain ⟨k, hk, rfl, hr, hb⟩ := hrel
    by_cases hlt : k < ls.length
    · obtain ⟨x, v, rfl, hc, hs, hlv⟩ := (h.below hb) k (ls[k]) (by simp)
      have i1 : (k : Int) < ls.length := by omega
      have hfl := flat_take_le ls (k + 1)
      rw [flat_step ls k hlt, List.length_append] at hfl
      have hz := hb.size
      go_wp2_with (first | (at_builtin; refine wpList_append_bytes _ rfl _ _ rfl w.heap.size _ _ rfl hr v ls[k] rfl hs (by omega) hz ?_))
      intro v' w' hr' hg'
      have hb' : Below w.heap.size w w' := hg'.belowAll (fun g e => (hr.lt g e).1) hb (Nat.le_refl _)
      rw [← flat_step ls k hlt] at hr'
      clear hr hg' hs hc
      go_wp2
      go_roundw
      case rel =>
        first
          | exact ⟨k + 1, by omega, by go_num, hr', hb'⟩
          | ((repeat apply Exists.intro); refine ⟨⟨k + 1, by omega, ?_, hr', hb'⟩, rfl⟩; go_num)
      case measure => simp [intOf]; omega
    · obtain rfl : k = ls.length := by omega
      rw [List.take_length] at hr
      go_wp2
      go_ret
      exact ⟨_, rfl, hr, hb⟩
end Go.Proofs.YthphmeckcmhijaaDoor
