import Derived.Test.YtcnhfgoflfnocaaDataB
import Derived.Deep.RegionWith
/-! The data stack: Cells. -/
namespace Go.Proofs.Ytcnhfgoflfnocaa
open Go.RowKit
open Go.Proofs
set_option linter.unusedVariables false
set_option linter.unusedSimpArgs false
def RowU (W : World) (B : Nat) (v : Value) (l : List Int) : Prop := W.ownsRow B 32 1 v l.length (en eU l)
theorem RowU.ls {W : World} {B : Nat} {v : Value} {l : List Int} (h : RowU W B v l) : Ls eU 1 W v l := own_sl hU h
theorem HasD.ls {W : World} {b : Nat} {l : List Int} (h : HasD W b l) : Ls eU 1 W (.slice (some ⟨b, 0, none⟩) l.length 256) l := by
  refine .inr ⟨_, 256, rfl, h.2, fun i a hi => ⟨b, 0, rfl, fun j u hj => ?_⟩⟩
  have hj' : j < 1 := (List.getElem?_eq_some_iff.1 hj).1
  refine cell_of W b _ _ 60 _ h.1 ?_
  rw [Nat.zero_add, pc_get hU 0 l h.2 i j a hi hj']; exact hj
set_option maxHeartbeats 1000000
set_option maxRecDepth 100000
theorem uclone (x : Addr) (l : List Int) (c : Nat) (hl : l.length ≤ 1000000) (w : World) (h : Ls eU 1 w (.slice (some x) l.length c) l) :
    Calls Try.prog 46 #[.slice (some x) l.length c] w fun e w' => ∃ u, e = .returned u ∧ RowU w' w.heap.size u l ∧ Below w.heap.size w w' := by
  have hr0 := own_empty w 32 1
  have hb0 : Below w.heap.size w (w.alloc (.cells #[] 32)) := (Below.refl _ _).alloc (Nat.le_refl _) _
  have hs0 := (h.below hb0).cs hU (by omega) oneU
  have hn := fun (W : World) => eql_nil 22 32 Try.underlying22 W (some x) l.length c
  clear h
  go_enter Try.func46, Try.ntmps46
  go_wp2_with (first | (at_builtin; refine wpList_append_row _ rfl _ _ 22 32 _ 1 2 Try.underlying22 info32 rfl (by decide) rfl w.heap.size _ 0 [] rfl hr0 _ l.length (en eU l) rfl hs0 (by unfold room; omega) (by unfold maxLen; omega) hb0.size ?_))
  intro v' w' hr hg
  go_wp2
  go_ret
  refine ⟨_, rfl, ?_, hg.belowAll (fun g e => (hr0.lt g e).1) hb0 (Nat.le_refl _)⟩
  simpa [RowU] using hr
theorem dall (b : Nat) (l : List Int) (w : World) (h : HasD w b l) : Calls Try.prog 29 #[.pointer (some ⟨b, 0, none⟩)] w fun e w' => ∃ u, e = .returned u ∧ RowU w' w.heap.size u l ∧ Below w.heap.size w w' := by
  have cn := h.count
  have hk := h.len_lt
  have hd : HasD w.drew b l := h
  have hc := uclone ⟨b, 0, none⟩ l 256 (by have := h.2; omega) w.drew hd.ls
  clear h hd
  go_enter Try.func29, Try.ntmps29
  go_wp2_with fail
  go_region_with (go_at_call 46; refine hc.mono ?_; rintro e w1 ⟨u, rfl, h1, h2⟩)
  go_wp2
  go_ret
  exact ⟨_, rfl, h1, ⟨h2.os, h2.tape, h2.output, h2.size, h2.block⟩⟩
theorem dcells (b : Nat) (l : List Int) (w : World) (h : HasD w b l) : Calls Try.prog 16 #[.pointer (some ⟨b, 0, none⟩)] w fun e w' => ∃ u, e = .returned u ∧ RowU w' w.heap.size u l ∧ Below w.heap.size w w' := by
  have hc := dall b l w h
  clear h
  go_enter Try.func16, Try.ntmps16
  go_wp2_with fail
  refine hc.mono ?_
  rintro e w1 ⟨u, rfl, h1, h2⟩
  go_wp2
  go_ret
  exact ⟨_, rfl, h1, h2⟩
theorem dcells_nil (w : World) : Calls Try.prog 16 #[.pointer none] w fun e w' => e = .returned (.slice none 0 0) ∧ w' = w := by
  go_enter Try.func16, Try.ntmps16
  go_wp2
  go_ret
  exact ⟨rfl, rfl⟩
/-- Need at a nil stack, at the three that the law asks. -/
theorem dneed_nil (i o v : Int) (hv : (i = 0 ∧ o = 0 ∧ v = 0) ∨ (i = 1 ∧ o = 0 ∧ v = 1) ∨ (i = 0 ∧ o = 257 ∧ v = 2)) (w : World) : Calls Try.prog 9 #[.pointer none, .int .i64 i, .int .i64 o] w fun e w' => e = .returned (.int .i64 v) ∧ w' = w := by
  have hd := dlen_nil w
  have e3 : IntKind.i64.wrap 256 = 256 := by decide
  rcases hv with ⟨rfl, rfl, rfl⟩ | ⟨rfl, rfl, rfl⟩ | ⟨rfl, rfl, rfl⟩
  · go_enter Try.func9, Try.ntmps9
    go_wp2_with fail
    refine hd.mono ?_
    rintro e w1 ⟨rfl, rfl⟩
    go_wp2_with fail
    refine hd.mono ?_
    rintro e w1 ⟨rfl, rfl⟩
    go_wp2
    go_ret
    exact ⟨rfl, rfl⟩
  · go_enter Try.func9, Try.ntmps9
    go_wp2_with fail
    refine hd.mono ?_
    rintro e w1 ⟨rfl, rfl⟩
    go_wp2
    go_ret
    exact ⟨rfl, rfl⟩
  · go_enter Try.func9, Try.ntmps9
    go_wp2_with fail
    refine hd.mono ?_
    rintro e w1 ⟨rfl, rfl⟩
    go_wp2_with fail
    refine hd.mono ?_
    rintro e w1 ⟨rfl, rfl⟩
    go_wp2
    go_ret
    exact ⟨rfl, rfl⟩
end Go.Proofs.Ytcnhfgoflfnocaa
