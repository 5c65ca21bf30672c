import Derived.Test.YtcnhfgoflfnocaaOpen
import Derived.Test.YtcnhfgoflfnocaaOpenS
import Derived.Test.YtcnhfgoflfnocaaPlays
import Derived.Lib.SmallJoins
namespace Go.Proofs.Ytcnhfgoflfnocaa.stackPlays
open Go.ChangeShapes Go.WideShapes Go.ChangeAt Go.RowKit Go.Joins
set_option linter.unusedVariables false

theorem plays_ok : PlaysOk := fun _ _ _ k a b v u l m w0 w hA h0 hP hn => plays_head k a b v u l m w0 w hA h0 hP hn

theorem walk (p : Option Addr) (c : Nat) (ps : List OpD) (hlen : ps.length ≤ 140737488355328) (w : World) (h : ScS w p ps) :
    Calls Try.prog 6 #[.slice p ps.length c] w fun e w' => e = .returned (.bool true) ∧ Below w.heap.size w w' :=
  law_walk plays_ok p c ps hlen w h

set_option maxRecDepth 100000 in
theorem lifted (os : Os) (started : os.Started) (H : Type) (enc : TypeId × Value → H) :
    ReturnsInHanded {} Try.checked os 6 .any (Rows.stackPlaysSpec.pre6 enc Try.prog Try.f6 Rows.stackPlaysRow.domain false) (Rows.stackPlaysSpec.post enc Try.prog Try.f6 false true false false) := by
  refine returnsInHanded_of_change_sized (C := Try.checked) own started (by kernel_rfl) Try.func6
    (ChangeSpec.witness6 (enc := enc) (C := Try.checked) false ⟨#[], #[.slice none 0 0], []⟩ 8 (by kernel_rfl) (by kernel_rfl) (by kernel_rfl) (by kernel_rfl)) ?_
  intro W base args ds gs before hval0 hW hcnd hwt _
  have hval : ∀ (j : Nat) t v, Try.f6.params[j]? = some t → args[j]? = some v → Value.okWide Try.prog W .any base t v := hval0
  have hW' := hW
  obtain ⟨p, q, hA0, hV, rfl, hfz, hnd⟩ := hW
  have hA : DataW.TrodAll enc Try.prog W 0 (fun _ => true) true Try.f6.params.toList args.toList ds p := hA0
  replace hwt : (DataW.weightsEach Try.prog (Try.f6.params.toList ++ Rows.stackPlaysSpec.plain.varTypes Try.prog) (ds ++ gs)).all (· ≤ reachBytes) = true := hwt
  rw [Try.params6] at hA hval hwt
  obtain ⟨v0, vs0, d0, ds0, p0, q0, hargs, rfl, rfl, h0, r0⟩ := trodAll_cons hA
  obtain ⟨rfl, rfl, rfl⟩ := trodAll_nil r0
  obtain rfl : args = #[v0] := by cases args; simp_all
  obtain ⟨rfl, rfl⟩ := trodVars_none hV
  simp only [List.cons_append, List.nil_append, DataW.weightsEach, List.all_append, Bool.and_eq_true] at hwt
  have k0 := h0
  have lt0 : ∀ x ∈ p0, x.block < W.heap.size := by obtain ⟨m, hm⟩ := k0; exact DataW.trod_lt m _ _ _ hm
  obtain ⟨ps, pp0, c0, e0, s0, n0⟩ := open_script (hval 0 54 v0 rfl rfl) h0 hwt.1
  subst e0
  clear hA0 hval0
  refine (walk pp0 c0 ps n0 W s0).mono fun e W' ⟨he, bel⟩ => ?_
  subst he
  exact ⟨_, rfl, _, _, _, [], _, [], hW', trodAll_mk1 (shut_bool Try.underlying4 _), (trodAll_cons_mk (Below.trod laidOut (by kernel_rfl) (of_decide_eq_true (by kernel_rfl)) k0 bel lt0) trodAll_mk0), rfl, bel.frame _, fun h => by cases h⟩

theorem over : Rows.stackPlaysRow.holds Try.pinned (OpenSpec.ofChange Rows.stackPlaysSpec) :=
  OpenClaim.holds_of_wide 6 Try.f6 rfl rfl rfl rfl rfl rfl rfl ⟨rfl, rfl, rfl, rfl, rfl⟩ rfl rfl rfl rfl rfl (by kernel_rfl) Try.func6 (by kernel_rfl)
    (of_decide_eq_true (by kernel_rfl)) (by unfold Func.isWrapper; first | (rw [if_pos (by decide +kernel)]; kernel_rfl) | (rw [if_neg (by decide +kernel)]; exact ⟨rfl, rfl⟩))
    (fun os started H enc _ => lifted os started H enc)

theorem proved : Rows.StackPlaysSaid :=
  over
end Go.Proofs.Ytcnhfgoflfnocaa.stackPlays
namespace Go.Proofs.Ytcnhfgoflfnocaa
theorem stackPlays_holds : Rows.StackPlaysSaid := stackPlays.proved
#print axioms stackPlays_holds
end Go.Proofs.Ytcnhfgoflfnocaa
