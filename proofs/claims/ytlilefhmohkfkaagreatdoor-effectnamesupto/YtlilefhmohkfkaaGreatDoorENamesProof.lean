import Derived.Test.YtlilefhmohkfkaaGreatDoorVDef
import Derived.Test.YtlilefhmohkfkaaGreatDoorYOpenN
import Derived.LaidMore
import Derived.Deep.RegionHeld3
import Derived.Lib.LaidTab
import Derived.Test.YtlilefhmohkfkaaGreatDoorELawN
import Derived.Test.YtlilefhmohkfkaaGreatDoorCards
import Derived.Test.YtlilefhmohkfkaaGreatDoorTie
import Derived.WalkKit
import Derived.ProofKit
import Derived.OpenShut
import Derived.Deep.DeepHandedRow
import Derived.Deep.DeepWitnessRowRef
import Derived.Lib.SmallJoins
import Derived.Below
namespace Go.Proofs.YtlilefhmohkfkaaGreatDoor.E
open Go.RowKit
set_option linter.unusedVariables false
set_option maxRecDepth 100000
def laidL : List (String × DataW Unit) := Rows.effectJoinsRow.laid
def wName : String := Rows.effectJoinsRow.named.getD 0 ""
theorem door_met (os : Os) (args : Array Value) : laidMet Tryz.prog laidL ((World.doorLaid Tryz.prog 14 os).forCall (fun _ _ => 0) ⟨#[], args, []⟩).memory :=
 laidMet_of_run' 8 (by kernel_rfl) (by kernel_rfl)
def wDat : List (DataW Unit) := R.resL.map fun l => .lit (.string l)
theorem laid_list : laidL = [(wName, .slice wDat [])] := by kernel_rfl
theorem gWords : Tryz.prog.globalNamed wName = some 0 := by kernel_rfl
theorem gw_of_laid {W : World} (h : laidMetH Tryz.prog laidL W) : V.GW W := by
 rw [laid_list] at h
 have h0 : laidMet Tryz.prog [(wName, .slice wDat [])] W := h
 obtain ⟨ps, ⟨g, t, cs, fuel, p, q, hg, ht, hvar, hd, _, _⟩, _, _⟩ := h0
 obtain rfl := Option.some.inj (gWords.symm.trans hg)
 obtain rfl := Option.some.inj ((show (Tryz.prog.globals[0]?).map (·.type) = some 64 by kernel_rfl).symm.trans ht)
 obtain ⟨a, cap, hcs, hlc, hcell⟩ := open_row Tryz.underlying64 (by kernel_rfl) hd
 have hc0 := World.var?_cell gWords hvar 0
 have e0 : cs[0]? = some (.slice (some a) wDat.length cap) := by rw [<- Array.getElem?_toList, hcs]; rfl
 rw [e0] at hc0
 have hx : ∀ (i : Nat) (s : ByteArray), V.resN[i]? = some s -> W.cell? (a.add i) = some (.string s) := by
  intro i s hi
  unfold V.resN at hi
  rw [List.getElem?_map] at hi
  cases hl : R.resL[i]? with
  | none => rw [hl] at hi; cases hi
  | some l =>
   rw [hl] at hi
   cases hi
   obtain ⟨v, n, qq, hv, htr⟩ := hcell i (.lit (.string l)) (by unfold wDat; rw [List.getElem?_map, hl]; rfl)
   obtain ⟨s3, e3, h4, _⟩ := DataW.trod_string Tryz.underlying9 htr
   simp only [List.cons.injEq, and_true] at e3
   subst e3
   rw [hv]
   simp only [Prod.mk.injEq, DataW.lit.injEq, Lit.string.injEq] at h4
   obtain ⟨h4, _⟩ := h4
   subst h4
   rfl
 have hsp : a.spot = none := Y.add_none (hx 0 ⟨#[58]⟩ rfl)
 have hlt : 0 < W.heap.size := by
  have := World.block_lt_of_cell? W _ hc0
  exact this
 have hbl : a.block < W.heap.size := by
  have := World.block_lt_of_cell? W _ (hx 0 ⟨#[58]⟩ rfl)
  unfold Addr.add at this
  split at this <;> exact this
 obtain ⟨b, o, sp⟩ := a
 simp only at hsp
 subst hsp
 refine ⟨hlt, _, hc0, some ⟨b, o, none⟩, cap, by rfl, by decide, fun i s hi => ⟨b, o, rfl, hbl, ?_⟩⟩
 have := hx i s hi
 rw [Addr.add_lit] at this
 exact this
end Go.Proofs.YtlilefhmohkfkaaGreatDoor.E
namespace Go.Proofs.YtlilefhmohkfkaaGreatDoor.effectNamesUpto
open Go.ChangeShapes Go.WideShapes Go.ChangeAt Go.RowKit Go.Joins
open Go.Proofs.YtlilefhmohkfkaaGreatDoor.E
set_option linter.unusedVariables false
set_option maxRecDepth 100000
theorem contract (H : Type) (enc : TypeId × Value -> H) (W : World) (base : Nat) (args : Array Value) (ds gs : List (DataW H)) (before : List MemPlace)
  (hval0 : ∀ (j : Nat) t v, Tryz.f4.params[j]? = some t -> args[j]? = some v -> Value.okWide Tryz.prog W .any base t v)
  (hW : DataW.Whole enc Tryz.prog Tryz.f4.params.toList Rows.effectNamesSpec.vars false W args.toList ds gs before)
  (hcond : Rows.uptoSmall H (ds ++ gs) = true)
  (hL : laidMetH Tryz.prog laidL W) :
  Calls Tryz.prog 4 args W fun e W' => ∃ v, e = .returned v /\ Rows.effectNamesSpec.post enc Tryz.prog Tryz.f4 false true false false W args v W' := by
 have hval : ∀ (j : Nat) t v, Tryz.f4.params[j]? = some t -> args[j]? = some v -> Value.okWide Tryz.prog W .any base t v := hval0
 have hW' := hW
 obtain ⟨p, q, hA0, hV, rfl, hfz, hnd⟩ := hW
 have hA : DataW.TrodAll enc Tryz.prog W 0 (fun _ => true) true Tryz.f4.params.toList args.toList ds p := hA0
 rw [Tryz.params4] at hA hval
 obtain ⟨v0, vs0, d0, ds0, p0, q0, hargs, rfl, rfl, h0, r0⟩ := trodAll_cons hA
 obtain ⟨rfl, rfl, rfl⟩ := trodAll_nil r0
 obtain rfl : args = #[v0] := by cases args; simp_all
 obtain ⟨rfl, rfl⟩ := trodVars_none hV
 have hb : Rows.uptoBulkAll ([d0] ++ []) <= 1048576 := of_decide_eq_true hcond
 simp only [List.append_nil, Rows.uptoBulkAll] at hb
 have k0 := h0
 have lt0 : ∀ x ∈ p0, x.block < W.heap.size := by obtain ⟨m, hm⟩ := k0; exact DataW.trod_lt m _ _ _ hm
 obtain ⟨dv, bkv, pds, pbs, rfl, o1, o2, o3, o4, o5, o6⟩ := Y.open_prog2 (hval 0 35 v0 rfl rfl) h0 (by omega)
 clear hA0 hval0
 refine (names_walk pds pbs o3 (fun d hd => (o4 d hd).2) (fun d hd => (o4 d hd).1) o5 _ _ _ W (fun _ h => h) o1 o2 (gw_of_laid hL)).mono fun e W' ⟨he, bel⟩ => ?_
 subst he
 exact ⟨_, rfl, _, _, _, [], _, [], hW', trodAll_mk1 (shut_bool Tryz.underlying4 _), (trodAll_cons_mk (Below.trod Y.laidOut (by kernel_rfl) (of_decide_eq_true (by kernel_rfl)) k0 bel lt0) trodAll_mk0), rfl, bel.frame _, fun h => by cases h⟩
theorem reads (os : Os) {H : Type} (enc : TypeId × Value -> H) : ∃ places, DataW.whole enc Tryz.prog ((World.doorLaid Tryz.prog 14 os).forCall (fun _ _ => 0) ⟨#[], #[.agg #[.slice none 0 0, .slice none 0 0]], []⟩).memory Tryz.f4.params.toList Rows.effectNamesSpec.vars false (#[.agg #[.slice none 0 0, .slice none 0 0]] : Array Value).toList 8 = some ([.agg [.nil, .nil]], [], places) :=
 ⟨[], by kernel_rfl⟩
theorem lifted (os : Os) (started : os.Started) (H : Type) (enc : TypeId × Value -> H) (F : Stop.Interp) :
  ReturnsInHanded {} Tryz.checked os 4 .any ((Rows.OpenSpec.upto Rows.effectNamesSpec).preRow enc Tryz.prog Tryz.f4 Rows.effectNamesUptoRow.domain false Rows.effectNamesUptoRow.laid) (((Rows.OpenSpec.upto Rows.effectNamesSpec).at F).post enc Tryz.prog Tryz.f4 false true false false) := by
 obtain ⟨places, hx⟩ := reads os enc
 refine returnsInHanded_of_row (C := Tryz.checked) (s := Rows.OpenSpec.upto Rows.effectNamesSpec) Y.own started (by kernel_rfl) Tryz.func4
  (witness_row_atRef (enc := enc) (C := Tryz.checked) false (World.doorLaid Tryz.prog 14 os) #[.agg #[.slice none 0 0, .slice none 0 0]] rfl (by kernel_rfl) (by kernel_rfl) (by kernel_rfl)
   (OpenSpec.preRow_of_cond 8 hx (by kernel_rfl) (fun k hk => by cases hk; kernel_rfl) (by kernel_rfl) (door_met os _))) ?_
 intro W base args ds gs before hval hW _ hcond hwt hL _ _
 exact contract H enc W base args ds gs before hval hW (hcond _ rfl) hL
theorem said : Rows.EffectNamesUptoSaid :=
 OpenClaim.holds_of_cond 4 Tryz.f4 rfl rfl rfl rfl rfl rfl rfl ⟨rfl, rfl, rfl, rfl, rfl⟩ rfl rfl rfl rfl rfl (by kernel_rfl) Tryz.func4 (by kernel_rfl)
  (of_decide_eq_true (by kernel_rfl)) (by unfold Func.isWrapper; first | (rw [if_pos (by decide +kernel)]; kernel_rfl) | (rw [if_neg (by decide +kernel)]; exact ⟨rfl, rfl⟩))
  (fun os started H enc _ F => by rw [OpenClaim.pre_eq_preRow]; exact lifted os started H enc F)
theorem plain (f : FuncId) (fn : Func) (hf : Tryz.pinned.checked.prog.funcNamed Rows.effectNamesUptoRow.func = some f) (hfn : Tryz.pinned.checked.prog.funcs[f]? = some fn) :
  true = Tryz.pinned.checked.prog.looks [] /\ ∀ (j : Nat) t, fn.params[j]? = some t -> Tryz.pinned.checked.prog.wantsStandIn t = false := by
 obtain rfl : f = 4 := Option.some.inj ((show Tryz.prog.funcNamed Rows.effectNamesUptoRow.func = some 4 by kernel_rfl).symm.trans hf) |>.symm
 obtain rfl : fn = Tryz.f4 := (Option.some.inj (Tryz.func4.symm.trans hfn)).symm
 refine ⟨by kernel_rfl, fun j t ht => ?_⟩
 rw [Tryz.params4] at ht
 obtain rfl : t = 35 := by simpa using Array.mem_of_getElem? ht
 exact (show Tryz.prog.wantsStandIn 35 = false by kernel_rfl)
theorem card : Rows.EffectNamesUptoCardSaid :=
 Claim7.holds_tied_plain_at .later [] _ _ _ _ said (fun _ h => by cases h) (by kernel_rfl) (fun _ h => by cases h) effectNamesUpto_row_tie rfl ⟨rfl, rfl⟩ (by kernel_rfl) rfl plain (by kernel_rfl)
end Go.Proofs.YtlilefhmohkfkaaGreatDoor.effectNamesUpto
namespace Go.Proofs.YtlilefhmohkfkaaGreatDoor
theorem effectNamesUpto_card_holds : Rows.EffectNamesUptoCardSaid := effectNamesUpto.card
#print axioms effectNamesUpto_card_holds
end Go.Proofs.YtlilefhmohkfkaaGreatDoor
