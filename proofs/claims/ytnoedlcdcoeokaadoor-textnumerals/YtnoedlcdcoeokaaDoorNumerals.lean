import Derived.Test.YtnoedlcdcoeokaaDoorFixed
import Derived.Test.YtnoedlcdcoeokaaDoorRef
/-! TextNumerals' walk. -/
namespace Go.Proofs.YtnoedlcdcoeokaaDoor
open Go.RowKit
set_option linter.unusedVariables false
theorem name_num (l : List UInt8) (h : nameB l = true) : numE l = 20 := by
  unfold nameB at h
  simp only [Bool.and_eq_true, decide_eq_true_eq] at h
  exact (numC_none h.2.2.2.2.2).2

set_option maxHeartbeats 1000000 in
set_option maxRecDepth 100000 in
theorem numerals_any (s : ByteArray) (hs : s.size ≤ maxLen) (w : World) (hT : Tabs w) :
    Calls Tryd.prog 8 #[.string s] w fun e w' => e = .returned (.bool true) ∧ Below w.heap.size w w' := by
  have c1 := fun W => numeral_any s hs W
  have c2 := fun W => rnumeral_any s hs W
  have c3 := fun W => name_any s hs W
  have c4 := fun W => rname_any s hs W
  have hB := Below.refl w.heap.size w
  have hnm := name_num s.data.toList
  generalize numC s.data.toList = x at *
  generalize numE s.data.toList = y at *
  generalize nameB s.data.toList = n at *
  cases n with
  | true =>
    have hy := hnm rfl
    subst hy
    clear hnm
    go_enter Tryd.func8, Tryd.ntmps8
    go_wp2_with (first
      | (go_at_call 9; refine (fixed_any _ (hT.below hB)).mono ?_; rintro e wn ⟨rfl, hb⟩; replace hB := hB.trans (hb.mono hB.size); clear hb)
      | (go_at_call 21; refine (c1 _).mono ?_; rintro e wn ⟨rfl, hb⟩; replace hB := hB.trans (hb.mono hB.size); clear hb)
      | (go_at_call 22; refine (c2 _).mono ?_; rintro e wn ⟨rfl, hb⟩; replace hB := hB.trans (hb.mono hB.size); clear hb)
      | (go_at_call 12; refine (c3 _).mono ?_; rintro e wn ⟨rfl, hb⟩; replace hB := hB.trans (hb.mono hB.size); clear hb)
      | (go_at_call 23; refine (c4 _).mono ?_; rintro e wn ⟨rfl, hb⟩; replace hB := hB.trans (hb.mono hB.size); clear hb))
    go_ret
    exact ⟨rfl, hB⟩
  | false =>
    clear hnm
    go_enter Tryd.func8, Tryd.ntmps8
    go_wp2_with (first
      | (go_at_call 9; refine (fixed_any _ (hT.below hB)).mono ?_; rintro e wn ⟨rfl, hb⟩; replace hB := hB.trans (hb.mono hB.size); clear hb)
      | (go_at_call 21; refine (c1 _).mono ?_; rintro e wn ⟨rfl, hb⟩; replace hB := hB.trans (hb.mono hB.size); clear hb)
      | (go_at_call 22; refine (c2 _).mono ?_; rintro e wn ⟨rfl, hb⟩; replace hB := hB.trans (hb.mono hB.size); clear hb)
      | (go_at_call 12; refine (c3 _).mono ?_; rintro e wn ⟨rfl, hb⟩; replace hB := hB.trans (hb.mono hB.size); clear hb)
      | (go_at_call 23; refine (c4 _).mono ?_; rintro e wn ⟨rfl, hb⟩; replace hB := hB.trans (hb.mono hB.size); clear hb))
    go_ret
    exact ⟨rfl, hB⟩
end Go.Proofs.YtnoedlcdcoeokaaDoor
