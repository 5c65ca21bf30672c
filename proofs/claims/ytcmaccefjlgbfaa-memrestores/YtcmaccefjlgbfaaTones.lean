import Derived.Test.YtcmaccefjlgbfaaNewW
import Derived.BigQuiet
/-! bytes.Clone, slices.Clone, Tones, Screen; awake. -/
namespace Go.Proofs.Ytcmaccefjlgbfaa
open Go.RowKit
open Go.Proofs
set_option linter.unusedVariables false
set_option linter.unusedSimpArgs false
theorem Grew.belowAll {W W' : World} {v v' : Value} (h : Grew W W' v v') {N : Nat} (hB : ∀ g, v.ownBlock = some g → N ≤ g) {W0 : World} (h0 : Below N W0 W) (hN : N ≤ W0.heap.size) : Below N W0 W' :=
  h0.trans (h.below hB (Nat.le_trans hN h0.size))
theorem HasM.below {W W' : World} {F : Nat → Prop} {b : Nat} {m : MS} (h : HasM W F b m) (k : Below W.heap.size W W') : HasM W' F b m := h.kept fun i hi _ => k.block i hi
theorem eql_nil (t e : TypeId) (ht : Try.prog.underlying t = some (.slice e)) (W : World) (p : Option Addr) (n c : Nat) : (binOp .eql t (.slice p n c) (.slice none 0 0)).run Try.prog W = .ok (.bool p.isNone) W := by
  have h : ∀ d : Nat, (Op.equalIn (d + 1) t (.slice p n c) (.slice none 0 0)).run Try.prog W = .ok p.isNone W := fun d => by
    cases p <;> simp [Op.equalIn, run_underlying ht]
  have h2 : (Op.equal t (.slice p n c) (.slice none 0 0)).run Try.prog W = .ok p.isNone W := h 9999
  simp [binOp, h2]
set_option maxHeartbeats 1000000
set_option maxRecDepth 100000
theorem clone_any (v : Value) (l : List UInt8) (hl : l.length ≤ room) (w : World) (h : Sl w v l) :
    Calls Try.prog 44 #[v] w fun e w' => ∃ u, e = .returned u ∧ Row w' w.heap.size u l ∧ Below w.heap.size w w' := by
  have h0 := h
  rcases h with ⟨rfl, rfl⟩ | ⟨x, c, rfl, _, hc⟩
  · have hn := fun (W : World) => eql_nil 35 5 Try.underlying35 W none 0 0
    go_enter Try.func44, Try.ntmps44
    go_wp2
    go_ret
    exact ⟨_, rfl, row_nil _ _, Below.refl _ _⟩
  · have hr0 : Row (w.alloc (.cells #[] 5)) w.heap.size (.slice (some ⟨w.heap.size, 0, none⟩) 0 0) [] := row_of_alloc w w.heap.size (Nat.le_refl _) [] (by simp)
    have hb0 : Below w.heap.size w (w.alloc (.cells #[] 5)) := (Below.refl _ _).alloc (Nat.le_refl _) _
    have hs0 := h0.below hb0
    have hn := fun (W : World) => eql_nil 35 5 Try.underlying35 W (some x) l.length c
    go_enter Try.func44, Try.ntmps44
    go_wp2_with (first | (at_builtin; refine wpList_append_bytes _ rfl _ _ rfl w.heap.size _ [] rfl hr0 _ l rfl hs0 (by simpa using hl) hb0.size ?_))
    intro v' w' hr hg
    go_wp2
    go_ret
    exact ⟨_, rfl, hr, hg.belowAll (fun g e => (hr0.lt g e).1) hb0 (Nat.le_refl _)⟩
/-- A list of tones in new memory. -/
def TRow (W : World) (B : Nat) (v : Value) (l : List (Int × Int × Int)) : Prop := W.ownsRow B 90 3 v l.length (tc l)
theorem TRow.cs {W : World} {B : Nat} {v : Value} {l : List (Int × Int × Int)} (h : TRow W B v l) : Cs W v 3 l.length (tc l) := by
  have h' := h
  rcases h.2 with ⟨rfl, e⟩ | ⟨g, cap, cur, rfl, _⟩
  · exact .inl ⟨rfl, e, by rw [List.eq_nil_of_length_eq_zero e]; rfl⟩
  · refine .inr ⟨_, cap, rfl, tc_len l, World.ownsRow.cells h' rfl, tc_one l⟩
theorem Cs.below {W W' : World} {u : Value} {s n : Nat} {xs : List Value} (h : Cs W u s n xs) (b : Below W.heap.size W W') : Cs W' u s n xs := by
  rcases h with h | ⟨ad, c, e1, e2, e3, e4⟩
  · exact .inl h
  · exact .inr ⟨ad, c, e1, e2, fun j v hj => by have e := e3 j v hj; rw [b.cell (World.block_lt_of_cell? W _ e)]; exact e, e4⟩
theorem cloneT_any (v : Value) (l : List (Int × Int × Int)) (hl : l.length ≤ 1000000) (w : World) (h : TRow w 0 v l) :
    Calls Try.prog 45 #[v] w fun e w' => ∃ u, e = .returned u ∧ TRow w' w.heap.size u l ∧ Below w.heap.size w w' := by
  have h0 := h
  rcases h.2 with ⟨rfl, e⟩ | ⟨g, cap, cur, rfl, _⟩
  · have hn := fun (W : World) => eql_nil 52 90 Try.underlying52 W none 0 0
    obtain rfl := List.eq_nil_of_length_eq_zero e
    go_enter Try.func45, Try.ntmps45
    go_wp2
    go_ret
    exact ⟨_, rfl, World.ownsRow_nil _ _ _ _, Below.refl _ _⟩
  · have hr0 : (w.alloc (.cells #[] 90)).ownsRow w.heap.size 90 3 (.slice (some ⟨w.heap.size, 0, none⟩) 0 0) 0 [] :=
      ⟨rfl, .inr ⟨w.heap.size, 0, #[], rfl, Nat.le_refl _, heap_alloc_new w _, Nat.le_refl _, by decide, by simp, by simp⟩⟩
    have hb0 : Below w.heap.size w (w.alloc (.cells #[] 90)) := (Below.refl _ _).alloc (Nat.le_refl _) _
    have hs0 := h0.cs.below hb0
    have hn := fun (W : World) => eql_nil 52 90 Try.underlying52 W (some ⟨g, 0, none⟩) l.length cap
    go_enter Try.func45, Try.ntmps45
    go_wp2_with (first | (at_builtin; refine wpList_append_row _ rfl _ _ 52 90 _ 3 16 Try.underlying52 info90 rfl (by decide) rfl w.heap.size _ 0 [] rfl hr0 _ l.length (tc l) rfl hs0 (by unfold room; omega) (by unfold maxLen; omega) hb0.size ?_))
    intro v' w' hr hg
    go_wp2
    go_ret
    refine ⟨_, rfl, ?_, hg.belowAll (fun g e => (hr0.lt g e).1) hb0 (Nat.le_refl _)⟩
    simpa [TRow] using hr
theorem tones_any (b : Nat) (w : World) {F : Nat → Prop} {m : MS} (hm : HasM w F b m) (ht : m.tones.length ≤ 1000000) :
    Calls Try.prog 24 #[.pointer (some ⟨b, 0, none⟩)] w fun e w' => ∃ u, e = .returned u ∧ TRow w' w.heap.size u m.tones ∧ Below w.heap.size w w' := by
  obtain ⟨mb, L, tv, hm⟩ := hm
  have c6 := cell_of w b (19457 + 6) _ 86 _ hm.blk ((mcells_reg mb m tv hm.wf 6).trans rfl)
  simp only [Nat.reduceAdd] at c6
  have hc := cloneT_any tv m.tones ht w hm.tones
  go_enter Try.func24, Try.ntmps24
  go_wp2_with fail
  refine hc.mono ?_
  rintro e w1 ⟨u, rfl, h1, h2⟩
  go_wp2
  go_ret
  exact ⟨_, rfl, h1, h2⟩
theorem tones_nil (w : World) : Calls Try.prog 24 #[.pointer none] w fun e w' => e = .returned (.slice none 0 0) ∧ w' = w := by
  go_enter Try.func24, Try.ntmps24
  go_wp2
  go_ret
  exact ⟨rfl, rfl⟩
theorem screen_nil (w : World) : Calls Try.prog 23 #[.pointer none] w fun e w' => e = .returned (.slice none 0 0) ∧ w' = w := by
  go_enter Try.func23, Try.ntmps23
  go_wp2
  go_ret
  exact ⟨rfl, rfl⟩
theorem screen_any (b : Nat) (w : World) {F : Nat → Prop} {m : MS} (hm : HasM w F b m) :
    Calls Try.prog 23 #[.pointer (some ⟨b, 0, none⟩)] w fun e w' => ∃ u, e = .returned u ∧ Row w' w.heap.size u m.scr ∧ Below w.heap.size w w' := by
  obtain ⟨mb, L, tv, hm⟩ := hm
  have hs : Sl w (.slice (some ⟨b, 16385, none⟩) 3072 3072) m.scr := by
    refine .inr ⟨⟨b, 16385, none⟩, 3072, by rw [hm.wf.scr], by rw [hm.wf.scr]; omega, fun j x hj => ?_⟩
    have e : (⟨b, 16385, none⟩ : Addr).add j = ⟨b, 16385 + j, none⟩ := Addr.add_lit _ _ _
    rw [e]; exact cell_of w b _ _ 86 _ hm.blk (mcells_scr mb m tv hm.wf j x hj)
  have hc := clone_any _ m.scr (by rw [hm.wf.scr]; unfold room; omega) w hs
  go_enter Try.func23, Try.ntmps23
  go_wp2_with fail
  refine hc.mono ?_
  rintro e w1 ⟨u, rfl, h1, h2⟩
  go_wp2
  go_ret
  exact ⟨_, rfl, h1, h2⟩
end Go.Proofs.Ytcmaccefjlgbfaa
