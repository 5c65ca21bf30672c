import Derived.Test.YtcnhfgoflfnocaaOpen
import Derived.Test.YtcnhfgoflfnocaaNeedsA
import Derived.Test.YtcnhfgoflfnocaaNeedsB
import Derived.Test.YtcnhfgoflfnocaaNeedsC
import Derived.Lib.SmallJoins
namespace Go.Proofs.Ytcnhfgoflfnocaa.stackNeeds
open Go.ChangeShapes Go.WideShapes Go.ChangeAt Go.RowKit Go.Joins
set_option linter.unusedVariables false

theorem walk (p p2 : Option Addr) (c c2 : Nat) (cells more : List Int) (hc : cells.length ≤ c) (hc2 : more.length ≤ c2) (hr : cells.length * 2 + 4096 ≤ room) (hr2 : more.length * 2 + 4096 ≤ room) (i o : Int) (w : World) (h1 : Sl eU 1 w p cells) (h2 : Sl eU 1 w p2 more) :
    Calls Try.prog 3 #[.slice p cells.length c, .int .i64 i, .int .i64 o, .slice p2 more.length c2] w fun e w' => e = .returned (.bool true) ∧ Below w.heap.size w w' := by
  have g1 : cells.length ≤ room := by omega
  have g2 : more.length ≤ room := by omega
  by_cases hu : ((min cells.length 256 : Nat) : Int) < max i 0
  · exact needs_u p p2 c c2 cells more hc hc2 g1 g2 i o w h1 h2 hu
  by_cases hx : ((min cells.length 256 : Nat) : Int) - max i 0 + ((min more.length 300 : Nat) : Int) ≤ 256
  · by_cases ho : max o 0 ≤ 300
    · by_cases hov : ((min cells.length 256 : Nat) : Int) - max i 0 + max o 0 ≤ 256
      · exact needs_ay p p2 c c2 cells more hc hc2 g1 g2 i o w h1 h2 hu ho hov hx
      · exact needs_by p p2 c c2 cells more hc hc2 g1 g2 i o w h1 h2 hu ho hov hx
    · exact needs_cy p p2 c c2 cells more hc hc2 g1 g2 i o w h1 h2 hu ho hx
  · by_cases ho : max o 0 ≤ 300
    · by_cases hov : ((min cells.length 256 : Nat) : Int) - max i 0 + max o 0 ≤ 256
      · exact needs_an p p2 c c2 cells more hc hc2 g1 g2 i o w h1 h2 hu ho hov hx
      · exact needs_bn p p2 c c2 cells more hc hc2 g1 g2 i o w h1 h2 hu ho hov hx
    · exact needs_cn p p2 c c2 cells more hc hc2 g1 g2 i o w h1 h2 hu ho hx

set_option maxRecDepth 100000 in
theorem lifted (os : Os) (started : os.Started) (H : Type) (enc : TypeId × Value → H) :
    ReturnsInHanded {} Try.checked os 3 .any (Rows.stackNeedsSpec.pre6 enc Try.prog Try.f3 Rows.stackNeedsRow.domain false) (Rows.stackNeedsSpec.post enc Try.prog Try.f3 false true false false) := by
  refine returnsInHanded_of_change_sized (C := Try.checked) own started (by kernel_rfl) Try.func3
    (ChangeSpec.witness6 (enc := enc) (C := Try.checked) false ⟨#[], #[.slice none 0 0, .int .i64 0, .int .i64 0, .slice none 0 0], []⟩ 8 (by kernel_rfl) (by kernel_rfl) (by kernel_rfl) (by kernel_rfl)) ?_
  intro W base args ds gs before hval0 hW hcnd hwt _
  have hval : ∀ (j : Nat) t v, Try.f3.params[j]? = some t → args[j]? = some v → Value.okWide Try.prog W .any base t v := hval0
  have hW' := hW
  obtain ⟨p, q, hA0, hV, rfl, hfz, hnd⟩ := hW
  have hA : DataW.TrodAll enc Try.prog W 0 (fun _ => true) true Try.f3.params.toList args.toList ds p := hA0
  replace hwt : (DataW.weightsEach Try.prog (Try.f3.params.toList ++ Rows.stackNeedsSpec.plain.varTypes Try.prog) (ds ++ gs)).all (· ≤ reachBytes) = true := hwt
  rw [Try.params3] at hA hval hwt
  obtain ⟨v0, vs0, d0, ds0, p0, q0, hargs, rfl, rfl, h0, r0⟩ := trodAll_cons hA
  obtain ⟨v1, vs1, d1, ds1, p1, q1, rfl, rfl, rfl, h1, r1⟩ := trodAll_cons r0
  obtain ⟨v2, vs2, d2, ds2, p2, q2, rfl, rfl, rfl, h2, r2⟩ := trodAll_cons r1
  obtain ⟨v3, vs3, d3, ds3, p3, q3, rfl, rfl, rfl, h3, r3⟩ := trodAll_cons r2
  obtain ⟨rfl, rfl, rfl⟩ := trodAll_nil r3
  obtain rfl : args = #[v0, v1, v2, v3] := by cases args; simp_all
  obtain ⟨rfl, rfl⟩ := trodVars_none hV
  simp only [List.cons_append, List.nil_append, DataW.weightsEach, List.all_append, Bool.and_eq_true] at hwt
  have k0 := h0
  have lt0 : ∀ x ∈ p0, x.block < W.heap.size := by obtain ⟨m, hm⟩ := k0; exact DataW.trod_lt m _ _ _ hm
  have k1 := h1
  have lt1 : ∀ x ∈ p1, x.block < W.heap.size := by obtain ⟨m, hm⟩ := k1; exact DataW.trod_lt m _ _ _ hm
  have k2 := h2
  have lt2 : ∀ x ∈ p2, x.block < W.heap.size := by obtain ⟨m, hm⟩ := k2; exact DataW.trod_lt m _ _ _ hm
  have k3 := h3
  have lt3 : ∀ x ∈ p3, x.block < W.heap.size := by obtain ⟨m, hm⟩ := k3; exact DataW.trod_lt m _ _ _ hm
  obtain ⟨l0, pp0, c0, e0, lc0, s0, n0⟩ := open_us (hval 0 22 v0 rfl rfl) h0 hwt.1
  obtain ⟨a1, e1, _, _, w1⟩ := open_int Try.underlying3 (hval 1 3 v1 rfl rfl) h1
  obtain ⟨a2, e2, _, _, w2⟩ := open_int Try.underlying3 (hval 2 3 v2 rfl rfl) h2
  obtain ⟨l3, pp3, c3, e3, lc3, s3, n3⟩ := open_us (hval 3 22 v3 rfl rfl) h3 hwt.2.2.2.1
  subst e0 e1 e2 e3
  clear hA0 hval0
  refine (walk pp0 pp3 c0 c3 l0 l3 lc0 lc3 n0 n3 a1 a2 W s0 s3).mono fun e W' ⟨he, bel⟩ => ?_
  subst he
  exact ⟨_, rfl, _, _, _, [], _, [], hW', trodAll_mk1 (shut_bool Try.underlying4 _), (trodAll_cons_mk (Below.trod laidOut (by kernel_rfl) (of_decide_eq_true (by kernel_rfl)) k0 bel lt0) (trodAll_cons_mk (Below.trod laidOut (by kernel_rfl) (of_decide_eq_true (by kernel_rfl)) k1 bel lt1) (trodAll_cons_mk (Below.trod laidOut (by kernel_rfl) (of_decide_eq_true (by kernel_rfl)) k2 bel lt2) (trodAll_cons_mk (Below.trod laidOut (by kernel_rfl) (of_decide_eq_true (by kernel_rfl)) k3 bel lt3) trodAll_mk0)))), rfl, bel.frame _, fun h => by cases h⟩

theorem over : Rows.stackNeedsRow.holds Try.pinned (OpenSpec.ofChange Rows.stackNeedsSpec) :=
  OpenClaim.holds_of_wide 3 Try.f3 rfl rfl rfl rfl rfl rfl rfl ⟨rfl, rfl, rfl, rfl, rfl⟩ rfl rfl rfl rfl rfl (by kernel_rfl) Try.func3 (by kernel_rfl)
    (of_decide_eq_true (by kernel_rfl)) (by unfold Func.isWrapper; first | (rw [if_pos (by decide +kernel)]; kernel_rfl) | (rw [if_neg (by decide +kernel)]; exact ⟨rfl, rfl⟩))
    (fun os started H enc _ => lifted os started H enc)

theorem proved : Rows.StackNeedsSaid :=
  over
end Go.Proofs.Ytcnhfgoflfnocaa.stackNeeds
namespace Go.Proofs.Ytcnhfgoflfnocaa
theorem stackNeeds_holds : Rows.StackNeedsSaid := stackNeeds.proved
#print axioms stackNeeds_holds
end Go.Proofs.Ytcnhfgoflfnocaa
