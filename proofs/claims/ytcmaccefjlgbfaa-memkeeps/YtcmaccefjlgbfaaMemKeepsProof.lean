import Derived.Test.YtcmaccefjlgbfaaOpen
import Derived.Test.YtcmaccefjlgbfaaKeepsA
import Derived.Test.YtcmaccefjlgbfaaKeepsB
import Derived.Test.YtcmaccefjlgbfaaKeepsC
import Derived.Test.YtcmaccefjlgbfaaKeepsD
import Derived.Test.YtcmaccefjlgbfaaKeepsE
import Derived.Test.YtcmaccefjlgbfaaKeepsF
import Derived.Lib.SmallJoins
namespace Go.Proofs.Ytcmaccefjlgbfaa.memKeeps
open Go.ChangeShapes Go.WideShapes Go.ChangeAt Go.RowKit Go.Joins
set_option linter.unusedVariables false

theorem walk (p : Option Addr) (c : Nat) (bs : List (Int × List UInt8)) (hl : bs.length * 32 ≤ room) (hd : ∀ t ∈ bs, t.2.length + 1 ≤ room) (at_ : Int) (at0 : 0 ≤ at_) (at1 : at_ < 65536) (x : UInt8) (po : Option Addr) (co : Nat) (os : List Int) (ho : os.length * 2 ≤ room) (w : World) (h : BnS w p bs) (hos : OsS w po os) :
    Calls Try.prog 3 #[.slice p bs.length c, .agg #[.int .u16 at_, .int .u8 (bt x)], .slice po os.length co] w fun e w' => e = .returned (.bool true) ∧ Below w.heap.size w w' := by
  cases hm : mayB (-1) bs with
  | false => exact keeps_no p c bs hl hd at_ x po co os w h hm
  | true =>
    by_cases hbs : bs = []
    · by_cases a1 : at_ < 16384
      · exact keeps_a0 p c bs hl hd at_ at0 at1 x po co os ho w h hos hm hbs a1
      by_cases a2 : at_ < 32768
      · exact keeps_b0 p c bs hl hd at_ at0 at1 x po co os ho w h hos hm hbs (by omega) a2
      by_cases a3 : at_ < 52224
      · exact keeps_d0 p c bs hl hd at_ at0 at1 x po co os ho w h hos hm hbs (by omega) a3
      exact keeps_e0 p c bs hl hd at_ at0 at1 x po co os ho w h hos hm hbs (by omega)
    · by_cases a1 : at_ < 16384
      · exact keeps_a1 p c bs hl hd at_ at0 at1 x po co os ho w h hos hm hbs a1
      by_cases a2 : at_ < 32768
      · exact keeps_b1 p c bs hl hd at_ at0 at1 x po co os ho w h hos hm hbs (by omega) a2
      by_cases a3 : at_ < 52224
      · exact keeps_d1 p c bs hl hd at_ at0 at1 x po co os ho w h hos hm hbs (by omega) a3
      exact keeps_e1 p c bs hl hd at_ at0 at1 x po co os ho w h hos hm hbs (by omega)

theorem und25 : Try.prog.underlying 25 = some (.struct #[⟨ "At", 23, 0, false, "", "", 0⟩, ⟨ "X", 5, 1, false, "", "", 2⟩]) := by kernel_rfl

set_option maxRecDepth 100000 in
theorem lifted (os : Os) (started : os.Started) (H : Type) (enc : TypeId × Value → H) :
    ReturnsInHanded {} Try.checked os 3 .any (Rows.memKeepsSpec.pre6 enc Try.prog Try.f3 Rows.memKeepsRow.domain false) (Rows.memKeepsSpec.post enc Try.prog Try.f3 false true false false) := by
  refine returnsInHanded_of_change_sized (C := Try.checked) own started (by kernel_rfl) Try.func3
    (ChangeSpec.witness6 (enc := enc) (C := Try.checked) false ⟨#[], #[.slice none 0 0, .agg #[.int .u16 0, .int .u8 0], .slice none 0 0], []⟩ 8 (by kernel_rfl) (by kernel_rfl) (by kernel_rfl) (by kernel_rfl)) ?_
  intro W base args ds gs before hval0 hW hcnd hwt _
  have hval : ∀ (j : Nat) t v, Try.f3.params[j]? = some t → args[j]? = some v → Value.okWide Try.prog W .any base t v := hval0
  have hW' := hW
  obtain ⟨p, q, hA0, hV, rfl, hfz, hnd⟩ := hW
  have hA : DataW.TrodAll enc Try.prog W 0 (fun _ => true) true Try.f3.params.toList args.toList ds p := hA0
  replace hwt : (DataW.weightsEach Try.prog (Try.f3.params.toList ++ Rows.memKeepsSpec.plain.varTypes Try.prog) (ds ++ gs)).all (· ≤ reachBytes) = true := hwt
  rw [Try.params3] at hA hval hwt
  obtain ⟨v0, vs0, d0, ds0, p0, q0, hargs, rfl, rfl, h0, r0⟩ := trodAll_cons hA
  obtain ⟨v1, vs1, d1, ds1, p1, q1, rfl, rfl, rfl, h1, r1⟩ := trodAll_cons r0
  obtain ⟨v2, vs2, d2, ds2, p2, q2, rfl, rfl, rfl, h2, r2⟩ := trodAll_cons r1
  obtain ⟨rfl, rfl, rfl⟩ := trodAll_nil r2
  obtain rfl : args = #[v0, v1, v2] := by cases args; simp_all
  obtain ⟨rfl, rfl⟩ := trodVars_none hV
  simp only [List.cons_append, List.nil_append, DataW.weightsEach, List.all_append, Bool.and_eq_true] at hwt
  have k0 := h0
  have lt0 : ∀ x ∈ p0, x.block < W.heap.size := by obtain ⟨m, hm⟩ := k0; exact DataW.trod_lt m _ _ _ hm
  have k1 := h1
  have lt1 : ∀ x ∈ p1, x.block < W.heap.size := by obtain ⟨m, hm⟩ := k1; exact DataW.trod_lt m _ _ _ hm
  have k2 := h2
  have lt2 : ∀ x ∈ p2, x.block < W.heap.size := by obtain ⟨m, hm⟩ := k2; exact DataW.trod_lt m _ _ _ hm
  obtain ⟨bs, pp0, c0, e0, s0, n0, dl0⟩ := open_banks (hval 0 22 v0 rfl rfl) h0 hwt.1
  obtain ⟨os2, pp2, c2, e2, s2, n2⟩ := open_os (hval 2 26 v2 rfl rfl) h2 hwt.2.2.1
  obtain ⟨a0, a1, y0, y1, m, e1, _, _, hy0, hy1⟩ := open_agg2 und25 (by kernel_rfl) (by kernel_rfl) (hval 1 25 v1 rfl rfl) h1
  obtain ⟨z, ez, _, wz⟩ := DataW.trod_int Try.underlying23 hy0
  obtain ⟨x, ex, _, wx⟩ := DataW.trod_int Try.underlying5 hy1
  simp at ez ex
  subst ez ex e0 e1 e2
  have bz := bounds_u16 wz
  have bx := bounds_u8 wx
  have hx : x = bt (b8 x) := by rw [bt_b8]; omega
  clear hA0 hval0
  have hwk := walk pp0 c0 bs n0 dl0 z (by omega) (by omega) (b8 x) pp2 c2 os2 n2 W s0 s2
  rw [← hx] at hwk
  refine hwk.mono fun e W' ⟨he, bel⟩ => ?_
  subst he
  exact ⟨_, rfl, _, _, _, [], _, [], hW', trodAll_mk1 (shut_bool Try.underlying4 _), (trodAll_cons_mk (Below.trod laidOut (by kernel_rfl) (of_decide_eq_true (by kernel_rfl)) k0 bel lt0) (trodAll_cons_mk (Below.trod laidOut (by kernel_rfl) (of_decide_eq_true (by kernel_rfl)) k1 bel lt1) (trodAll_cons_mk (Below.trod laidOut (by kernel_rfl) (of_decide_eq_true (by kernel_rfl)) k2 bel lt2) trodAll_mk0))), rfl, bel.frame _, fun h => by cases h⟩

theorem over : Rows.memKeepsRow.holds Try.pinned (OpenSpec.ofChange Rows.memKeepsSpec) :=
  OpenClaim.holds_of_wide 3 Try.f3 rfl rfl rfl rfl rfl rfl rfl ⟨rfl, rfl, rfl, rfl, rfl⟩ rfl rfl rfl rfl rfl (by kernel_rfl) Try.func3 (by kernel_rfl)
    (of_decide_eq_true (by kernel_rfl)) (by unfold Func.isWrapper; first | (rw [if_pos (by decide +kernel)]; kernel_rfl) | (rw [if_neg (by decide +kernel)]; exact ⟨rfl, rfl⟩))
    (fun os started H enc _ => lifted os started H enc)

theorem proved : Rows.MemKeepsSaid :=
  over
end Go.Proofs.Ytcmaccefjlgbfaa.memKeeps
namespace Go.Proofs.Ytcmaccefjlgbfaa
theorem memKeeps_holds : Rows.MemKeepsSaid := memKeeps.proved
#print axioms memKeeps_holds
end Go.Proofs.Ytcmaccefjlgbfaa
