import Derived.Test.YtgponcjjnjpfkabGreatG7
import Derived.RangeFuncNested
import Derived.RangeFuncBound
import Derived.RangeFuncCalls
import Derived.RangeFuncLeaves
import Derived.Shelf.Abstract
import Derived.Shelf.RegionOpen
import Derived.OwnWalkIn
import Derived.TacticsInMore
import Derived.LoopNIn
import Derived.LoopIn
import Derived.Laws.ResultCell
import Derived.Deep.DeepCutAuto
import Derived.Laws.StructEq
import Derived.Deep.RegionHeld
/-! The rows by their number; All. -/
namespace Go.Proofs.YtgponcjjnjpfkabGreat.P
open Go.RowKit Go.Shelf
open Go.Proofs
set_option linter.unusedVariables false
set_option linter.unusedSimpArgs false
set_option maxHeartbeats 2000000
set_option maxRecDepth 100000
attribute [local go_sem] Oper.semAt_some
def nm (x : Nat) : ByteArray := match x with
  | 9 => ⟨#[110, 111, 112]⟩
  | 10 => ⟨#[121, 105, 101, 108, 100]⟩
  | 11 => ⟨#[104, 97, 108, 116]⟩
  | 12 => ⟨#[100, 117, 112]⟩
  | 13 => ⟨#[100, 114, 111, 112]⟩
  | 14 => ⟨#[115, 119, 97, 112]⟩
  | 15 => ⟨#[111, 118, 101, 114]⟩
  | 16 => ⟨#[114, 111, 116]⟩
  | 17 => ⟨#[110, 105, 112]⟩
  | 18 => ⟨#[116, 117, 99, 107]⟩
  | 19 => ⟨#[50, 100, 117, 112]⟩
  | 20 => ⟨#[50, 100, 114, 111, 112]⟩
  | 21 => ⟨#[43]⟩
  | 22 => ⟨#[45]⟩
  | 23 => ⟨#[42]⟩
  | 24 => ⟨#[47]⟩
  | 25 => ⟨#[109, 111, 100]⟩
  | 26 => ⟨#[117, 47]⟩
  | 27 => ⟨#[117, 109, 111, 100]⟩
  | 28 => ⟨#[110, 101, 103, 97, 116, 101]⟩
  | 29 => ⟨#[97, 98, 115]⟩
  | 30 => ⟨#[109, 105, 110]⟩
  | 31 => ⟨#[109, 97, 120]⟩
  | 32 => ⟨#[49, 43]⟩
  | 33 => ⟨#[49, 45]⟩
  | 34 => ⟨#[50, 42]⟩
  | 35 => ⟨#[50, 47]⟩
  | 36 => ⟨#[97, 110, 100]⟩
  | 37 => ⟨#[111, 114]⟩
  | 38 => ⟨#[120, 111, 114]⟩
  | 39 => ⟨#[105, 110, 118, 101, 114, 116]⟩
  | 40 => ⟨#[108, 115, 104, 105, 102, 116]⟩
  | 41 => ⟨#[114, 115, 104, 105, 102, 116]⟩
  | 42 => ⟨#[61]⟩
  | 43 => ⟨#[60, 62]⟩
  | 44 => ⟨#[60]⟩
  | 45 => ⟨#[62]⟩
  | 46 => ⟨#[117, 60]⟩
  | 47 => ⟨#[117, 62]⟩
  | 48 => ⟨#[48, 61]⟩
  | 49 => ⟨#[48, 60]⟩
  | 50 => ⟨#[64]⟩
  | 51 => ⟨#[33]⟩
  | 52 => ⟨#[99, 64]⟩
  | 53 => ⟨#[99, 33]⟩
  | 54 => ⟨#[43, 33]⟩
  | 55 => ⟨#[62, 114]⟩
  | 56 => ⟨#[114, 62]⟩
  | 57 => ⟨#[114, 64]⟩
  | 58 => ⟨#[105]⟩
  | 59 => ⟨#[106]⟩
  | 60 => ⟨#[112, 108, 111, 116]⟩
  | 61 => ⟨#[112, 97, 100]⟩
  | 62 => ⟨#[116, 111, 110, 101]⟩
  | 63 => ⟨#[98, 97, 110, 107]⟩
  | _ => ⟨#[]⟩
def ri (x : Nat) : Int := match x with
  | 5 => 1
  | 6 => 2
  | 12 => 1
  | 13 => 1
  | 14 => 2
  | 15 => 2
  | 16 => 3
  | 17 => 2
  | 18 => 2
  | 19 => 2
  | 20 => 2
  | 21 => 2
  | 22 => 2
  | 23 => 2
  | 24 => 2
  | 25 => 2
  | 26 => 2
  | 27 => 2
  | 28 => 1
  | 29 => 1
  | 30 => 2
  | 31 => 2
  | 32 => 1
  | 33 => 1
  | 34 => 1
  | 35 => 1
  | 36 => 2
  | 37 => 2
  | 38 => 2
  | 39 => 1
  | 40 => 2
  | 41 => 2
  | 42 => 2
  | 43 => 2
  | 44 => 2
  | 45 => 2
  | 46 => 2
  | 47 => 2
  | 48 => 1
  | 49 => 1
  | 50 => 1
  | 51 => 2
  | 52 => 1
  | 53 => 2
  | 54 => 2
  | 55 => 1
  | 60 => 3
  | 62 => 2
  | 63 => 1
  | _ => 0
def ro (x : Nat) : Int := match x with
  | 2 => 1
  | 3 => 1
  | 12 => 2
  | 14 => 2
  | 15 => 3
  | 16 => 3
  | 17 => 1
  | 18 => 3
  | 19 => 4
  | 21 => 1
  | 22 => 1
  | 23 => 1
  | 24 => 1
  | 25 => 1
  | 26 => 1
  | 27 => 1
  | 28 => 1
  | 29 => 1
  | 30 => 1
  | 31 => 1
  | 32 => 1
  | 33 => 1
  | 34 => 1
  | 35 => 1
  | 36 => 1
  | 37 => 1
  | 38 => 1
  | 39 => 1
  | 40 => 1
  | 41 => 1
  | 42 => 1
  | 43 => 1
  | 44 => 1
  | 45 => 1
  | 46 => 1
  | 47 => 1
  | 48 => 1
  | 49 => 1
  | 50 => 1
  | 52 => 1
  | 56 => 1
  | 57 => 1
  | 58 => 1
  | 59 => 1
  | 61 => 1
  | _ => 0
def rc (x : Nat) : Int := match x with
  | 1 => 2
  | 2 => 2
  | 3 => 2
  | 4 => 2
  | 5 => 2
  | 6 => 3
  | 7 => 3
  | 8 => 2
  | 19 => 2
  | 23 => 3
  | 24 => 4
  | 25 => 4
  | 26 => 4
  | 27 => 4
  | 50 => 2
  | 51 => 2
  | 52 => 2
  | 53 => 2
  | 54 => 3
  | 60 => 3
  | 62 => 2
  | _ => 1
def rb (x : Nat) : Bool := match x with
  | 3 => true
  | 4 => true
  | 5 => true
  | 7 => true
  | _ => false
def rowN (x : Nat) : Value := rowV (x : Int) (nm x) (ri x) (ro x) (rc x) (rb x)
theorem num_cases (x : Nat) (h1 : 1 ≤ x) (h2 : x < 64) : x = 1 ∨ x = 2 ∨ x = 3 ∨ x = 4 ∨ x = 5 ∨ x = 6 ∨ x = 7 ∨ x = 8 ∨ x = 9 ∨ x = 10 ∨ x = 11 ∨ x = 12 ∨ x = 13 ∨ x = 14 ∨ x = 15 ∨ x = 16 ∨ x = 17 ∨ x = 18 ∨ x = 19 ∨ x = 20 ∨ x = 21 ∨ x = 22 ∨ x = 23 ∨ x = 24 ∨ x = 25 ∨ x = 26 ∨ x = 27 ∨ x = 28 ∨ x = 29 ∨ x = 30 ∨ x = 31 ∨ x = 32 ∨ x = 33 ∨ x = 34 ∨ x = 35 ∨ x = 36 ∨ x = 37 ∨ x = 38 ∨ x = 39 ∨ x = 40 ∨ x = 41 ∨ x = 42 ∨ x = 43 ∨ x = 44 ∨ x = 45 ∨ x = 46 ∨ x = 47 ∨ x = 48 ∨ x = 49 ∨ x = 50 ∨ x = 51 ∨ x = 52 ∨ x = 53 ∨ x = 54 ∨ x = 55 ∨ x = 56 ∨ x = 57 ∨ x = 58 ∨ x = 59 ∨ x = 60 ∨ x = 61 ∨ x = 62 ∨ x = 63 := by omega
theorem ent_at (x : Nat) (h1 : 1 ≤ x) (h2 : x < 64) : ∃ (k bl s : Int) (f : Value), f.oneCell' = true ∧ (f = .nilFunc ∨ ∃ g, f = .func (.func g) #[] #[]) ∧ ∀ w, Calls Tryz.prog 43 #[.int .i64 (x : Int)] w fun e w' => e = .returned (entV (x : Int) (nm x) (ri x) (ro x) (rc x) (rb x) k bl s f) ∧ Below w.heap.size w w' := by
  rcases num_cases x h1 h2 with rfl | rfl | rfl | rfl | rfl | rfl | rfl | rfl | rfl | rfl | rfl | rfl | rfl | rfl | rfl | rfl | rfl | rfl | rfl | rfl | rfl | rfl | rfl | rfl | rfl | rfl | rfl | rfl | rfl | rfl | rfl | rfl | rfl | rfl | rfl | rfl | rfl | rfl | rfl | rfl | rfl | rfl | rfl | rfl | rfl | rfl | rfl | rfl | rfl | rfl | rfl | rfl | rfl | rfl | rfl | rfl | rfl | rfl | rfl | rfl | rfl | rfl | rfl
  · exact ⟨_, _, _, _, rfl, .inl rfl, ent_1⟩
  · exact ⟨_, _, _, _, rfl, .inl rfl, ent_2⟩
  · exact ⟨_, _, _, _, rfl, .inl rfl, ent_3⟩
  · exact ⟨_, _, _, _, rfl, .inl rfl, ent_4⟩
  · exact ⟨_, _, _, _, rfl, .inl rfl, ent_5⟩
  · exact ⟨_, _, _, _, rfl, .inr ⟨_, rfl⟩, ent_6⟩
  · exact ⟨_, _, _, _, rfl, .inl rfl, ent_7⟩
  · exact ⟨_, _, _, _, rfl, .inl rfl, ent_8⟩
  · exact ⟨_, _, _, _, rfl, .inr ⟨_, rfl⟩, ent_9⟩
  · exact ⟨_, _, _, _, rfl, .inl rfl, ent_10⟩
  · exact ⟨_, _, _, _, rfl, .inl rfl, ent_11⟩
  · exact ⟨_, _, _, _, rfl, .inr ⟨_, rfl⟩, ent_12⟩
  · exact ⟨_, _, _, _, rfl, .inr ⟨_, rfl⟩, ent_13⟩
  · exact ⟨_, _, _, _, rfl, .inr ⟨_, rfl⟩, ent_14⟩
  · exact ⟨_, _, _, _, rfl, .inr ⟨_, rfl⟩, ent_15⟩
  · exact ⟨_, _, _, _, rfl, .inr ⟨_, rfl⟩, ent_16⟩
  · exact ⟨_, _, _, _, rfl, .inr ⟨_, rfl⟩, ent_17⟩
  · exact ⟨_, _, _, _, rfl, .inr ⟨_, rfl⟩, ent_18⟩
  · exact ⟨_, _, _, _, rfl, .inr ⟨_, rfl⟩, ent_19⟩
  · exact ⟨_, _, _, _, rfl, .inr ⟨_, rfl⟩, ent_20⟩
  · exact ⟨_, _, _, _, rfl, .inr ⟨_, rfl⟩, ent_21⟩
  · exact ⟨_, _, _, _, rfl, .inr ⟨_, rfl⟩, ent_22⟩
  · exact ⟨_, _, _, _, rfl, .inr ⟨_, rfl⟩, ent_23⟩
  · exact ⟨_, _, _, _, rfl, .inr ⟨_, rfl⟩, ent_24⟩
  · exact ⟨_, _, _, _, rfl, .inr ⟨_, rfl⟩, ent_25⟩
  · exact ⟨_, _, _, _, rfl, .inr ⟨_, rfl⟩, ent_26⟩
  · exact ⟨_, _, _, _, rfl, .inr ⟨_, rfl⟩, ent_27⟩
  · exact ⟨_, _, _, _, rfl, .inr ⟨_, rfl⟩, ent_28⟩
  · exact ⟨_, _, _, _, rfl, .inr ⟨_, rfl⟩, ent_29⟩
  · exact ⟨_, _, _, _, rfl, .inr ⟨_, rfl⟩, ent_30⟩
  · exact ⟨_, _, _, _, rfl, .inr ⟨_, rfl⟩, ent_31⟩
  · exact ⟨_, _, _, _, rfl, .inr ⟨_, rfl⟩, ent_32⟩
  · exact ⟨_, _, _, _, rfl, .inr ⟨_, rfl⟩, ent_33⟩
  · exact ⟨_, _, _, _, rfl, .inr ⟨_, rfl⟩, ent_34⟩
  · exact ⟨_, _, _, _, rfl, .inr ⟨_, rfl⟩, ent_35⟩
  · exact ⟨_, _, _, _, rfl, .inr ⟨_, rfl⟩, ent_36⟩
  · exact ⟨_, _, _, _, rfl, .inr ⟨_, rfl⟩, ent_37⟩
  · exact ⟨_, _, _, _, rfl, .inr ⟨_, rfl⟩, ent_38⟩
  · exact ⟨_, _, _, _, rfl, .inr ⟨_, rfl⟩, ent_39⟩
  · exact ⟨_, _, _, _, rfl, .inr ⟨_, rfl⟩, ent_40⟩
  · exact ⟨_, _, _, _, rfl, .inr ⟨_, rfl⟩, ent_41⟩
  · exact ⟨_, _, _, _, rfl, .inr ⟨_, rfl⟩, ent_42⟩
  · exact ⟨_, _, _, _, rfl, .inr ⟨_, rfl⟩, ent_43⟩
  · exact ⟨_, _, _, _, rfl, .inr ⟨_, rfl⟩, ent_44⟩
  · exact ⟨_, _, _, _, rfl, .inr ⟨_, rfl⟩, ent_45⟩
  · exact ⟨_, _, _, _, rfl, .inr ⟨_, rfl⟩, ent_46⟩
  · exact ⟨_, _, _, _, rfl, .inr ⟨_, rfl⟩, ent_47⟩
  · exact ⟨_, _, _, _, rfl, .inr ⟨_, rfl⟩, ent_48⟩
  · exact ⟨_, _, _, _, rfl, .inr ⟨_, rfl⟩, ent_49⟩
  · exact ⟨_, _, _, _, rfl, .inr ⟨_, rfl⟩, ent_50⟩
  · exact ⟨_, _, _, _, rfl, .inr ⟨_, rfl⟩, ent_51⟩
  · exact ⟨_, _, _, _, rfl, .inr ⟨_, rfl⟩, ent_52⟩
  · exact ⟨_, _, _, _, rfl, .inr ⟨_, rfl⟩, ent_53⟩
  · exact ⟨_, _, _, _, rfl, .inr ⟨_, rfl⟩, ent_54⟩
  · exact ⟨_, _, _, _, rfl, .inr ⟨_, rfl⟩, ent_55⟩
  · exact ⟨_, _, _, _, rfl, .inr ⟨_, rfl⟩, ent_56⟩
  · exact ⟨_, _, _, _, rfl, .inr ⟨_, rfl⟩, ent_57⟩
  · exact ⟨_, _, _, _, rfl, .inr ⟨_, rfl⟩, ent_58⟩
  · exact ⟨_, _, _, _, rfl, .inr ⟨_, rfl⟩, ent_59⟩
  · exact ⟨_, _, _, _, rfl, .inr ⟨_, rfl⟩, ent_60⟩
  · exact ⟨_, _, _, _, rfl, .inr ⟨_, rfl⟩, ent_61⟩
  · exact ⟨_, _, _, _, rfl, .inr ⟨_, rfl⟩, ent_62⟩
  · exact ⟨_, _, _, _, rfl, .inr ⟨_, rfl⟩, ent_63⟩
theorem of_at (x : Nat) (h1 : 1 ≤ x) (h2 : x < 64) (w : World) : Calls Tryz.prog 19 #[.int .i64 (x : Int)] w fun e w' => e = .returned (.tuple #[rowN x, .int .i64 0]) ∧ Below w.heap.size w w' := by
  obtain ⟨k, bl, s, f, _, _, hE⟩ := ent_at x h1 h2
  exact of_yes _ _ _ _ _ _ _ _ _ _ (by omega) (by omega) hE w
def allN : List Nat := List.range' 1 63
theorem grown_of {W W' : World} (b : Below W.heap.size W W') : W.grownBy W' none := ⟨b.os, b.tape, b.output, b.size, fun k hk _ => b.block k hk⟩
theorem range_snoc (k : Nat) : List.range' 1 k ++ [1 + k] = List.range' 1 (k + 1) := by rw [List.range'_1_concat]
theorem range_pre (k : Nat) (h : k ≤ 63) : List.range' 1 k <+: allN := by
  refine ⟨List.range' (1 + k) (63 - k), ?_⟩
  rw [allN, List.range'_append_1, show k + (63 - k) = 63 by omega]
theorem all_stops (n n₀ : Nat) (hn : 1 ≤ n) (w : World) :
    SeqStopsK Fence.wide n Tryz.prog 77 #[] (fun x : Nat => #[rowV (x : Int) (nm x) (ri x) (ro x) (rc x) (rb x)]) (Below n₀) (fun xs => xs = allN) (fun pre => pre <+: allN) 63 w := fun l J Jx W hW hJ hJx hY h0 => by
  refine callsIn_of_wp Tryz.func77 rfl trivial ?_ rfl
  simp only [Tryz.ntmps77, List.size_toArray, List.length_cons, List.length_nil, Nat.reduceAdd, Nat.reduceSub, Array.replicate_succ, Array.replicate_zero, List.push_toArray, List.append_toArray, List.nil_append, List.cons_append]
  have hfd := field0
  unfold rowV at hfd
  gi_wp2
  gi_loopw [2] (fun i wr => ∃ k : Nat, k ≤ 63 ∧ i = .int .i64 ((1 + k : Nat) : Int) ∧ J (List.range' 1 k) wr) (fun i _ => 64 - (intOf i).toNat)
  case atStart => exact ⟨0, by omega, rfl, h0⟩
  case round =>
    obtain ⟨k, hk, rfl, hJs⟩ := hrel
    by_cases hlt : k < 63
    · obtain ⟨kk, bl, s, f, hf, _, hE⟩ := ent_at (1 + k) (by omega) (by omega)
      have hYk : ∀ W1, J (List.range' 1 k) W1 → _ := fun W1 h => hY (List.range' 1 k) (1 + k) W1 h (by simp; omega)
      have hpre := range_pre (k + 1) (by omega)
      rw [← range_snoc] at hpre
      have hi0 : ((1 + k : Nat) : Int) < 64 := by omega
      have hn1 : IntKind.i64.wrap (((1 + k : Nat) : Int) + 1) = ((1 + (k + 1) : Nat) : Int) := by rw [S.i64_id _ (by omega) (by omega)]; omega
      have hms : (64 - (((1 + (k + 1) : Nat) : Int)).toNat) < 64 - (((1 + k : Nat) : Int)).toNat := by omega
      generalize hz : ((1 + k : Nat) : Int) = z at *
      generalize hz2 : ((1 + (k + 1) : Nat) : Int) = z2 at *

      generalize nm (1 + k) = a1 at *
      generalize ri (1 + k) = a2 at *
      generalize ro (1 + k) = a3 at *
      generalize rc (1 + k) = a4 at *
      generalize rb (1 + k) = a5 at *
      have HZ := S.hid (And.intro hz hz2)
      have HM := S.hid hms
      clear hz hz2 hms
      gi_wp2_with (refine ⟨trivial, ?_⟩; gi_at_call 43; refine (callsIn_wide.2 (hE _)).mono ?_; rintro e w1 ⟨rfl, hB⟩; unfold entV; obtain ⟨fn, tmps, assign, body, hy, hR⟩ := hYk w1 (hJ _ _ _ none hJs (grown_of hB) (fun r e => by cases e)); unfold rowV at hy)
      refine hR.mono ?_
      rintro e W3 (⟨rfl, hJ3, hk3⟩ | ⟨rfl, hJx3⟩)
      · gi_wp2
        rw [range_snoc] at hJ3
        refine ⟨⟨k + 1, by omega, by rw [HZ.out.2], hJ3⟩, ?_⟩
        have := HM.out
        simpa [intOf] using this
      · gi_wp2
        refine bodyPost_ret (results_none rfl _ _ _) rfl ?_
        exact ⟨⟨_, rfl⟩, .inr ⟨_, hpre, hJx3⟩⟩
    · obtain rfl : k = 63 := by omega
      gi_wp2
      go_end0
      exact ⟨⟨_, rfl⟩, .inl ⟨_, rfl, hJs⟩⟩
end Go.Proofs.YtgponcjjnjpfkabGreat.P
/-! The reference's table. -/
namespace Go.Proofs.YtgponcjjnjpfkabGreat.L
open Go.RowKit
open Go.Proofs
open P
set_option linter.unusedVariables false
set_option linter.unusedSimpArgs false
set_option maxHeartbeats 2000000
set_option maxRecDepth 100000
theorem rl_1 (w : World) : Calls Tryz.prog 84 #[.int .i64 1] w fun e w' => e = .returned (rowV 1 ⟨#[]⟩ 0 0 2 false) ∧ Below w.heap.size w w' := by
  go_enter Tryz.func84, Tryz.ntmps84
  go_wp2
  exact bodyPost_ret (v := rowV 1 ⟨#[]⟩ 0 0 2 false) (by simp [results, Tryz.results84, go_sem, rowV]) rfl ⟨rfl, bel_alloc w _⟩
theorem rl_2 (w : World) : Calls Tryz.prog 84 #[.int .i64 2] w fun e w' => e = .returned (rowV 2 ⟨#[]⟩ 0 1 2 false) ∧ Below w.heap.size w w' := by
  go_enter Tryz.func84, Tryz.ntmps84
  go_wp2
  exact bodyPost_ret (v := rowV 2 ⟨#[]⟩ 0 1 2 false) (by simp [results, Tryz.results84, go_sem, rowV]) rfl ⟨rfl, bel_alloc w _⟩
theorem rl_3 (w : World) : Calls Tryz.prog 84 #[.int .i64 3] w fun e w' => e = .returned (rowV 3 ⟨#[]⟩ 0 1 2 true) ∧ Below w.heap.size w w' := by
  go_enter Tryz.func84, Tryz.ntmps84
  go_wp2
  exact bodyPost_ret (v := rowV 3 ⟨#[]⟩ 0 1 2 true) (by simp [results, Tryz.results84, go_sem, rowV]) rfl ⟨rfl, bel_alloc w _⟩
theorem rl_4 (w : World) : Calls Tryz.prog 84 #[.int .i64 4] w fun e w' => e = .returned (rowV 4 ⟨#[]⟩ 0 0 2 true) ∧ Below w.heap.size w w' := by
  go_enter Tryz.func84, Tryz.ntmps84
  go_wp2
  exact bodyPost_ret (v := rowV 4 ⟨#[]⟩ 0 0 2 true) (by simp [results, Tryz.results84, go_sem, rowV]) rfl ⟨rfl, bel_alloc w _⟩
theorem rl_5 (w : World) : Calls Tryz.prog 84 #[.int .i64 5] w fun e w' => e = .returned (rowV 5 ⟨#[]⟩ 1 0 2 true) ∧ Below w.heap.size w w' := by
  go_enter Tryz.func84, Tryz.ntmps84
  go_wp2
  exact bodyPost_ret (v := rowV 5 ⟨#[]⟩ 1 0 2 true) (by simp [results, Tryz.results84, go_sem, rowV]) rfl ⟨rfl, bel_alloc w _⟩
theorem rl_6 (w : World) : Calls Tryz.prog 84 #[.int .i64 6] w fun e w' => e = .returned (rowV 6 ⟨#[]⟩ 2 0 3 false) ∧ Below w.heap.size w w' := by
  go_enter Tryz.func84, Tryz.ntmps84
  go_wp2
  exact bodyPost_ret (v := rowV 6 ⟨#[]⟩ 2 0 3 false) (by simp [results, Tryz.results84, go_sem, rowV]) rfl ⟨rfl, bel_alloc w _⟩
theorem rl_7 (w : World) : Calls Tryz.prog 84 #[.int .i64 7] w fun e w' => e = .returned (rowV 7 ⟨#[]⟩ 0 0 3 true) ∧ Below w.heap.size w w' := by
  go_enter Tryz.func84, Tryz.ntmps84
  go_wp2
  exact bodyPost_ret (v := rowV 7 ⟨#[]⟩ 0 0 3 true) (by simp [results, Tryz.results84, go_sem, rowV]) rfl ⟨rfl, bel_alloc w _⟩
theorem rl_8 (w : World) : Calls Tryz.prog 84 #[.int .i64 8] w fun e w' => e = .returned (rowV 8 ⟨#[]⟩ 0 0 2 false) ∧ Below w.heap.size w w' := by
  go_enter Tryz.func84, Tryz.ntmps84
  go_wp2
  exact bodyPost_ret (v := rowV 8 ⟨#[]⟩ 0 0 2 false) (by simp [results, Tryz.results84, go_sem, rowV]) rfl ⟨rfl, bel_alloc w _⟩
theorem rl_9 (w : World) : Calls Tryz.prog 84 #[.int .i64 9] w fun e w' => e = .returned (rowV 9 ⟨#[110, 111, 112]⟩ 0 0 1 false) ∧ Below w.heap.size w w' := by
  go_enter Tryz.func84, Tryz.ntmps84
  go_wp2
  exact bodyPost_ret (v := rowV 9 ⟨#[110, 111, 112]⟩ 0 0 1 false) (by simp [results, Tryz.results84, go_sem, rowV]) rfl ⟨rfl, bel_alloc w _⟩
theorem rl_10 (w : World) : Calls Tryz.prog 84 #[.int .i64 10] w fun e w' => e = .returned (rowV 10 ⟨#[121, 105, 101, 108, 100]⟩ 0 0 1 false) ∧ Below w.heap.size w w' := by
  go_enter Tryz.func84, Tryz.ntmps84
  go_wp2
  exact bodyPost_ret (v := rowV 10 ⟨#[121, 105, 101, 108, 100]⟩ 0 0 1 false) (by simp [results, Tryz.results84, go_sem, rowV]) rfl ⟨rfl, bel_alloc w _⟩
theorem rl_11 (w : World) : Calls Tryz.prog 84 #[.int .i64 11] w fun e w' => e = .returned (rowV 11 ⟨#[104, 97, 108, 116]⟩ 0 0 1 false) ∧ Below w.heap.size w w' := by
  go_enter Tryz.func84, Tryz.ntmps84
  go_wp2
  exact bodyPost_ret (v := rowV 11 ⟨#[104, 97, 108, 116]⟩ 0 0 1 false) (by simp [results, Tryz.results84, go_sem, rowV]) rfl ⟨rfl, bel_alloc w _⟩
theorem rl_12 (w : World) : Calls Tryz.prog 84 #[.int .i64 12] w fun e w' => e = .returned (rowV 12 ⟨#[100, 117, 112]⟩ 1 2 1 false) ∧ Below w.heap.size w w' := by
  go_enter Tryz.func84, Tryz.ntmps84
  go_wp2
  exact bodyPost_ret (v := rowV 12 ⟨#[100, 117, 112]⟩ 1 2 1 false) (by simp [results, Tryz.results84, go_sem, rowV]) rfl ⟨rfl, bel_alloc w _⟩
theorem rl_13 (w : World) : Calls Tryz.prog 84 #[.int .i64 13] w fun e w' => e = .returned (rowV 13 ⟨#[100, 114, 111, 112]⟩ 1 0 1 false) ∧ Below w.heap.size w w' := by
  go_enter Tryz.func84, Tryz.ntmps84
  go_wp2
  exact bodyPost_ret (v := rowV 13 ⟨#[100, 114, 111, 112]⟩ 1 0 1 false) (by simp [results, Tryz.results84, go_sem, rowV]) rfl ⟨rfl, bel_alloc w _⟩
theorem rl_14 (w : World) : Calls Tryz.prog 84 #[.int .i64 14] w fun e w' => e = .returned (rowV 14 ⟨#[115, 119, 97, 112]⟩ 2 2 1 false) ∧ Below w.heap.size w w' := by
  go_enter Tryz.func84, Tryz.ntmps84
  go_wp2
  exact bodyPost_ret (v := rowV 14 ⟨#[115, 119, 97, 112]⟩ 2 2 1 false) (by simp [results, Tryz.results84, go_sem, rowV]) rfl ⟨rfl, bel_alloc w _⟩
theorem rl_15 (w : World) : Calls Tryz.prog 84 #[.int .i64 15] w fun e w' => e = .returned (rowV 15 ⟨#[111, 118, 101, 114]⟩ 2 3 1 false) ∧ Below w.heap.size w w' := by
  go_enter Tryz.func84, Tryz.ntmps84
  go_wp2
  exact bodyPost_ret (v := rowV 15 ⟨#[111, 118, 101, 114]⟩ 2 3 1 false) (by simp [results, Tryz.results84, go_sem, rowV]) rfl ⟨rfl, bel_alloc w _⟩
theorem rl_16 (w : World) : Calls Tryz.prog 84 #[.int .i64 16] w fun e w' => e = .returned (rowV 16 ⟨#[114, 111, 116]⟩ 3 3 1 false) ∧ Below w.heap.size w w' := by
  go_enter Tryz.func84, Tryz.ntmps84
  go_wp2
  exact bodyPost_ret (v := rowV 16 ⟨#[114, 111, 116]⟩ 3 3 1 false) (by simp [results, Tryz.results84, go_sem, rowV]) rfl ⟨rfl, bel_alloc w _⟩
theorem rl_17 (w : World) : Calls Tryz.prog 84 #[.int .i64 17] w fun e w' => e = .returned (rowV 17 ⟨#[110, 105, 112]⟩ 2 1 1 false) ∧ Below w.heap.size w w' := by
  go_enter Tryz.func84, Tryz.ntmps84
  go_wp2
  exact bodyPost_ret (v := rowV 17 ⟨#[110, 105, 112]⟩ 2 1 1 false) (by simp [results, Tryz.results84, go_sem, rowV]) rfl ⟨rfl, bel_alloc w _⟩
theorem rl_18 (w : World) : Calls Tryz.prog 84 #[.int .i64 18] w fun e w' => e = .returned (rowV 18 ⟨#[116, 117, 99, 107]⟩ 2 3 1 false) ∧ Below w.heap.size w w' := by
  go_enter Tryz.func84, Tryz.ntmps84
  go_wp2
  exact bodyPost_ret (v := rowV 18 ⟨#[116, 117, 99, 107]⟩ 2 3 1 false) (by simp [results, Tryz.results84, go_sem, rowV]) rfl ⟨rfl, bel_alloc w _⟩
theorem rl_19 (w : World) : Calls Tryz.prog 84 #[.int .i64 19] w fun e w' => e = .returned (rowV 19 ⟨#[50, 100, 117, 112]⟩ 2 4 2 false) ∧ Below w.heap.size w w' := by
  go_enter Tryz.func84, Tryz.ntmps84
  go_wp2
  exact bodyPost_ret (v := rowV 19 ⟨#[50, 100, 117, 112]⟩ 2 4 2 false) (by simp [results, Tryz.results84, go_sem, rowV]) rfl ⟨rfl, bel_alloc w _⟩
theorem rl_20 (w : World) : Calls Tryz.prog 84 #[.int .i64 20] w fun e w' => e = .returned (rowV 20 ⟨#[50, 100, 114, 111, 112]⟩ 2 0 1 false) ∧ Below w.heap.size w w' := by
  go_enter Tryz.func84, Tryz.ntmps84
  go_wp2
  exact bodyPost_ret (v := rowV 20 ⟨#[50, 100, 114, 111, 112]⟩ 2 0 1 false) (by simp [results, Tryz.results84, go_sem, rowV]) rfl ⟨rfl, bel_alloc w _⟩
end Go.Proofs.YtgponcjjnjpfkabGreat.L
/-! The reference's table. -/
namespace Go.Proofs.YtgponcjjnjpfkabGreat.L
open Go.RowKit
open Go.Proofs
open P
set_option linter.unusedVariables false
set_option linter.unusedSimpArgs false
set_option maxHeartbeats 2000000
set_option maxRecDepth 100000
theorem rl_21 (w : World) : Calls Tryz.prog 85 #[.int .i64 21] w fun e w' => e = .returned (rowV 21 ⟨#[43]⟩ 2 1 1 false) ∧ Below w.heap.size w w' := by
  go_enter Tryz.func85, Tryz.ntmps85
  go_wp2
  exact bodyPost_ret (v := rowV 21 ⟨#[43]⟩ 2 1 1 false) (by simp [results, Tryz.results85, go_sem, rowV]) rfl ⟨rfl, bel_alloc w _⟩
theorem rl_22 (w : World) : Calls Tryz.prog 85 #[.int .i64 22] w fun e w' => e = .returned (rowV 22 ⟨#[45]⟩ 2 1 1 false) ∧ Below w.heap.size w w' := by
  go_enter Tryz.func85, Tryz.ntmps85
  go_wp2
  exact bodyPost_ret (v := rowV 22 ⟨#[45]⟩ 2 1 1 false) (by simp [results, Tryz.results85, go_sem, rowV]) rfl ⟨rfl, bel_alloc w _⟩
theorem rl_23 (w : World) : Calls Tryz.prog 85 #[.int .i64 23] w fun e w' => e = .returned (rowV 23 ⟨#[42]⟩ 2 1 3 false) ∧ Below w.heap.size w w' := by
  go_enter Tryz.func85, Tryz.ntmps85
  go_wp2
  exact bodyPost_ret (v := rowV 23 ⟨#[42]⟩ 2 1 3 false) (by simp [results, Tryz.results85, go_sem, rowV]) rfl ⟨rfl, bel_alloc w _⟩
theorem rl_24 (w : World) : Calls Tryz.prog 85 #[.int .i64 24] w fun e w' => e = .returned (rowV 24 ⟨#[47]⟩ 2 1 4 false) ∧ Below w.heap.size w w' := by
  go_enter Tryz.func85, Tryz.ntmps85
  go_wp2
  exact bodyPost_ret (v := rowV 24 ⟨#[47]⟩ 2 1 4 false) (by simp [results, Tryz.results85, go_sem, rowV]) rfl ⟨rfl, bel_alloc w _⟩
theorem rl_25 (w : World) : Calls Tryz.prog 85 #[.int .i64 25] w fun e w' => e = .returned (rowV 25 ⟨#[109, 111, 100]⟩ 2 1 4 false) ∧ Below w.heap.size w w' := by
  go_enter Tryz.func85, Tryz.ntmps85
  go_wp2
  exact bodyPost_ret (v := rowV 25 ⟨#[109, 111, 100]⟩ 2 1 4 false) (by simp [results, Tryz.results85, go_sem, rowV]) rfl ⟨rfl, bel_alloc w _⟩
theorem rl_26 (w : World) : Calls Tryz.prog 85 #[.int .i64 26] w fun e w' => e = .returned (rowV 26 ⟨#[117, 47]⟩ 2 1 4 false) ∧ Below w.heap.size w w' := by
  go_enter Tryz.func85, Tryz.ntmps85
  go_wp2
  exact bodyPost_ret (v := rowV 26 ⟨#[117, 47]⟩ 2 1 4 false) (by simp [results, Tryz.results85, go_sem, rowV]) rfl ⟨rfl, bel_alloc w _⟩
theorem rl_27 (w : World) : Calls Tryz.prog 85 #[.int .i64 27] w fun e w' => e = .returned (rowV 27 ⟨#[117, 109, 111, 100]⟩ 2 1 4 false) ∧ Below w.heap.size w w' := by
  go_enter Tryz.func85, Tryz.ntmps85
  go_wp2
  exact bodyPost_ret (v := rowV 27 ⟨#[117, 109, 111, 100]⟩ 2 1 4 false) (by simp [results, Tryz.results85, go_sem, rowV]) rfl ⟨rfl, bel_alloc w _⟩
theorem rl_28 (w : World) : Calls Tryz.prog 85 #[.int .i64 28] w fun e w' => e = .returned (rowV 28 ⟨#[110, 101, 103, 97, 116, 101]⟩ 1 1 1 false) ∧ Below w.heap.size w w' := by
  go_enter Tryz.func85, Tryz.ntmps85
  go_wp2
  exact bodyPost_ret (v := rowV 28 ⟨#[110, 101, 103, 97, 116, 101]⟩ 1 1 1 false) (by simp [results, Tryz.results85, go_sem, rowV]) rfl ⟨rfl, bel_alloc w _⟩
theorem rl_29 (w : World) : Calls Tryz.prog 85 #[.int .i64 29] w fun e w' => e = .returned (rowV 29 ⟨#[97, 98, 115]⟩ 1 1 1 false) ∧ Below w.heap.size w w' := by
  go_enter Tryz.func85, Tryz.ntmps85
  go_wp2
  exact bodyPost_ret (v := rowV 29 ⟨#[97, 98, 115]⟩ 1 1 1 false) (by simp [results, Tryz.results85, go_sem, rowV]) rfl ⟨rfl, bel_alloc w _⟩
theorem rl_30 (w : World) : Calls Tryz.prog 85 #[.int .i64 30] w fun e w' => e = .returned (rowV 30 ⟨#[109, 105, 110]⟩ 2 1 1 false) ∧ Below w.heap.size w w' := by
  go_enter Tryz.func85, Tryz.ntmps85
  go_wp2
  exact bodyPost_ret (v := rowV 30 ⟨#[109, 105, 110]⟩ 2 1 1 false) (by simp [results, Tryz.results85, go_sem, rowV]) rfl ⟨rfl, bel_alloc w _⟩
theorem rl_31 (w : World) : Calls Tryz.prog 85 #[.int .i64 31] w fun e w' => e = .returned (rowV 31 ⟨#[109, 97, 120]⟩ 2 1 1 false) ∧ Below w.heap.size w w' := by
  go_enter Tryz.func85, Tryz.ntmps85
  go_wp2
  exact bodyPost_ret (v := rowV 31 ⟨#[109, 97, 120]⟩ 2 1 1 false) (by simp [results, Tryz.results85, go_sem, rowV]) rfl ⟨rfl, bel_alloc w _⟩
theorem rl_32 (w : World) : Calls Tryz.prog 85 #[.int .i64 32] w fun e w' => e = .returned (rowV 32 ⟨#[49, 43]⟩ 1 1 1 false) ∧ Below w.heap.size w w' := by
  go_enter Tryz.func85, Tryz.ntmps85
  go_wp2
  exact bodyPost_ret (v := rowV 32 ⟨#[49, 43]⟩ 1 1 1 false) (by simp [results, Tryz.results85, go_sem, rowV]) rfl ⟨rfl, bel_alloc w _⟩
theorem rl_33 (w : World) : Calls Tryz.prog 85 #[.int .i64 33] w fun e w' => e = .returned (rowV 33 ⟨#[49, 45]⟩ 1 1 1 false) ∧ Below w.heap.size w w' := by
  go_enter Tryz.func85, Tryz.ntmps85
  go_wp2
  exact bodyPost_ret (v := rowV 33 ⟨#[49, 45]⟩ 1 1 1 false) (by simp [results, Tryz.results85, go_sem, rowV]) rfl ⟨rfl, bel_alloc w _⟩
theorem rl_34 (w : World) : Calls Tryz.prog 85 #[.int .i64 34] w fun e w' => e = .returned (rowV 34 ⟨#[50, 42]⟩ 1 1 1 false) ∧ Below w.heap.size w w' := by
  go_enter Tryz.func85, Tryz.ntmps85
  go_wp2
  exact bodyPost_ret (v := rowV 34 ⟨#[50, 42]⟩ 1 1 1 false) (by simp [results, Tryz.results85, go_sem, rowV]) rfl ⟨rfl, bel_alloc w _⟩
theorem rl_35 (w : World) : Calls Tryz.prog 85 #[.int .i64 35] w fun e w' => e = .returned (rowV 35 ⟨#[50, 47]⟩ 1 1 1 false) ∧ Below w.heap.size w w' := by
  go_enter Tryz.func85, Tryz.ntmps85
  go_wp2
  exact bodyPost_ret (v := rowV 35 ⟨#[50, 47]⟩ 1 1 1 false) (by simp [results, Tryz.results85, go_sem, rowV]) rfl ⟨rfl, bel_alloc w _⟩
theorem rl_36 (w : World) : Calls Tryz.prog 85 #[.int .i64 36] w fun e w' => e = .returned (rowV 36 ⟨#[97, 110, 100]⟩ 2 1 1 false) ∧ Below w.heap.size w w' := by
  go_enter Tryz.func85, Tryz.ntmps85
  go_wp2
  exact bodyPost_ret (v := rowV 36 ⟨#[97, 110, 100]⟩ 2 1 1 false) (by simp [results, Tryz.results85, go_sem, rowV]) rfl ⟨rfl, bel_alloc w _⟩
theorem rl_37 (w : World) : Calls Tryz.prog 85 #[.int .i64 37] w fun e w' => e = .returned (rowV 37 ⟨#[111, 114]⟩ 2 1 1 false) ∧ Below w.heap.size w w' := by
  go_enter Tryz.func85, Tryz.ntmps85
  go_wp2
  exact bodyPost_ret (v := rowV 37 ⟨#[111, 114]⟩ 2 1 1 false) (by simp [results, Tryz.results85, go_sem, rowV]) rfl ⟨rfl, bel_alloc w _⟩
theorem rl_38 (w : World) : Calls Tryz.prog 85 #[.int .i64 38] w fun e w' => e = .returned (rowV 38 ⟨#[120, 111, 114]⟩ 2 1 1 false) ∧ Below w.heap.size w w' := by
  go_enter Tryz.func85, Tryz.ntmps85
  go_wp2
  exact bodyPost_ret (v := rowV 38 ⟨#[120, 111, 114]⟩ 2 1 1 false) (by simp [results, Tryz.results85, go_sem, rowV]) rfl ⟨rfl, bel_alloc w _⟩
theorem rl_39 (w : World) : Calls Tryz.prog 85 #[.int .i64 39] w fun e w' => e = .returned (rowV 39 ⟨#[105, 110, 118, 101, 114, 116]⟩ 1 1 1 false) ∧ Below w.heap.size w w' := by
  go_enter Tryz.func85, Tryz.ntmps85
  go_wp2
  exact bodyPost_ret (v := rowV 39 ⟨#[105, 110, 118, 101, 114, 116]⟩ 1 1 1 false) (by simp [results, Tryz.results85, go_sem, rowV]) rfl ⟨rfl, bel_alloc w _⟩
theorem rl_40 (w : World) : Calls Tryz.prog 85 #[.int .i64 40] w fun e w' => e = .returned (rowV 40 ⟨#[108, 115, 104, 105, 102, 116]⟩ 2 1 1 false) ∧ Below w.heap.size w w' := by
  go_enter Tryz.func85, Tryz.ntmps85
  go_wp2
  exact bodyPost_ret (v := rowV 40 ⟨#[108, 115, 104, 105, 102, 116]⟩ 2 1 1 false) (by simp [results, Tryz.results85, go_sem, rowV]) rfl ⟨rfl, bel_alloc w _⟩
theorem rl_41 (w : World) : Calls Tryz.prog 85 #[.int .i64 41] w fun e w' => e = .returned (rowV 41 ⟨#[114, 115, 104, 105, 102, 116]⟩ 2 1 1 false) ∧ Below w.heap.size w w' := by
  go_enter Tryz.func85, Tryz.ntmps85
  go_wp2
  exact bodyPost_ret (v := rowV 41 ⟨#[114, 115, 104, 105, 102, 116]⟩ 2 1 1 false) (by simp [results, Tryz.results85, go_sem, rowV]) rfl ⟨rfl, bel_alloc w _⟩
end Go.Proofs.YtgponcjjnjpfkabGreat.L
/-! The reference's table. -/
namespace Go.Proofs.YtgponcjjnjpfkabGreat.L
open Go.RowKit
open Go.Proofs
open P
set_option linter.unusedVariables false
set_option linter.unusedSimpArgs false
set_option maxHeartbeats 2000000
set_option maxRecDepth 100000
theorem rl_42 (w : World) : Calls Tryz.prog 86 #[.int .i64 42] w fun e w' => e = .returned (rowV 42 ⟨#[61]⟩ 2 1 1 false) ∧ Below w.heap.size w w' := by
  go_enter Tryz.func86, Tryz.ntmps86
  go_wp2
  exact bodyPost_ret (v := rowV 42 ⟨#[61]⟩ 2 1 1 false) (by simp [results, Tryz.results86, go_sem, rowV]) rfl ⟨rfl, bel_alloc w _⟩
theorem rl_43 (w : World) : Calls Tryz.prog 86 #[.int .i64 43] w fun e w' => e = .returned (rowV 43 ⟨#[60, 62]⟩ 2 1 1 false) ∧ Below w.heap.size w w' := by
  go_enter Tryz.func86, Tryz.ntmps86
  go_wp2
  exact bodyPost_ret (v := rowV 43 ⟨#[60, 62]⟩ 2 1 1 false) (by simp [results, Tryz.results86, go_sem, rowV]) rfl ⟨rfl, bel_alloc w _⟩
theorem rl_44 (w : World) : Calls Tryz.prog 86 #[.int .i64 44] w fun e w' => e = .returned (rowV 44 ⟨#[60]⟩ 2 1 1 false) ∧ Below w.heap.size w w' := by
  go_enter Tryz.func86, Tryz.ntmps86
  go_wp2
  exact bodyPost_ret (v := rowV 44 ⟨#[60]⟩ 2 1 1 false) (by simp [results, Tryz.results86, go_sem, rowV]) rfl ⟨rfl, bel_alloc w _⟩
theorem rl_45 (w : World) : Calls Tryz.prog 86 #[.int .i64 45] w fun e w' => e = .returned (rowV 45 ⟨#[62]⟩ 2 1 1 false) ∧ Below w.heap.size w w' := by
  go_enter Tryz.func86, Tryz.ntmps86
  go_wp2
  exact bodyPost_ret (v := rowV 45 ⟨#[62]⟩ 2 1 1 false) (by simp [results, Tryz.results86, go_sem, rowV]) rfl ⟨rfl, bel_alloc w _⟩
theorem rl_46 (w : World) : Calls Tryz.prog 86 #[.int .i64 46] w fun e w' => e = .returned (rowV 46 ⟨#[117, 60]⟩ 2 1 1 false) ∧ Below w.heap.size w w' := by
  go_enter Tryz.func86, Tryz.ntmps86
  go_wp2
  exact bodyPost_ret (v := rowV 46 ⟨#[117, 60]⟩ 2 1 1 false) (by simp [results, Tryz.results86, go_sem, rowV]) rfl ⟨rfl, bel_alloc w _⟩
theorem rl_47 (w : World) : Calls Tryz.prog 86 #[.int .i64 47] w fun e w' => e = .returned (rowV 47 ⟨#[117, 62]⟩ 2 1 1 false) ∧ Below w.heap.size w w' := by
  go_enter Tryz.func86, Tryz.ntmps86
  go_wp2
  exact bodyPost_ret (v := rowV 47 ⟨#[117, 62]⟩ 2 1 1 false) (by simp [results, Tryz.results86, go_sem, rowV]) rfl ⟨rfl, bel_alloc w _⟩
theorem rl_48 (w : World) : Calls Tryz.prog 86 #[.int .i64 48] w fun e w' => e = .returned (rowV 48 ⟨#[48, 61]⟩ 1 1 1 false) ∧ Below w.heap.size w w' := by
  go_enter Tryz.func86, Tryz.ntmps86
  go_wp2
  exact bodyPost_ret (v := rowV 48 ⟨#[48, 61]⟩ 1 1 1 false) (by simp [results, Tryz.results86, go_sem, rowV]) rfl ⟨rfl, bel_alloc w _⟩
theorem rl_49 (w : World) : Calls Tryz.prog 86 #[.int .i64 49] w fun e w' => e = .returned (rowV 49 ⟨#[48, 60]⟩ 1 1 1 false) ∧ Below w.heap.size w w' := by
  go_enter Tryz.func86, Tryz.ntmps86
  go_wp2
  exact bodyPost_ret (v := rowV 49 ⟨#[48, 60]⟩ 1 1 1 false) (by simp [results, Tryz.results86, go_sem, rowV]) rfl ⟨rfl, bel_alloc w _⟩
theorem rl_50 (w : World) : Calls Tryz.prog 86 #[.int .i64 50] w fun e w' => e = .returned (rowV 50 ⟨#[64]⟩ 1 1 2 false) ∧ Below w.heap.size w w' := by
  go_enter Tryz.func86, Tryz.ntmps86
  go_wp2
  exact bodyPost_ret (v := rowV 50 ⟨#[64]⟩ 1 1 2 false) (by simp [results, Tryz.results86, go_sem, rowV]) rfl ⟨rfl, bel_alloc w _⟩
theorem rl_51 (w : World) : Calls Tryz.prog 86 #[.int .i64 51] w fun e w' => e = .returned (rowV 51 ⟨#[33]⟩ 2 0 2 false) ∧ Below w.heap.size w w' := by
  go_enter Tryz.func86, Tryz.ntmps86
  go_wp2
  exact bodyPost_ret (v := rowV 51 ⟨#[33]⟩ 2 0 2 false) (by simp [results, Tryz.results86, go_sem, rowV]) rfl ⟨rfl, bel_alloc w _⟩
theorem rl_52 (w : World) : Calls Tryz.prog 86 #[.int .i64 52] w fun e w' => e = .returned (rowV 52 ⟨#[99, 64]⟩ 1 1 2 false) ∧ Below w.heap.size w w' := by
  go_enter Tryz.func86, Tryz.ntmps86
  go_wp2
  exact bodyPost_ret (v := rowV 52 ⟨#[99, 64]⟩ 1 1 2 false) (by simp [results, Tryz.results86, go_sem, rowV]) rfl ⟨rfl, bel_alloc w _⟩
theorem rl_53 (w : World) : Calls Tryz.prog 86 #[.int .i64 53] w fun e w' => e = .returned (rowV 53 ⟨#[99, 33]⟩ 2 0 2 false) ∧ Below w.heap.size w w' := by
  go_enter Tryz.func86, Tryz.ntmps86
  go_wp2
  exact bodyPost_ret (v := rowV 53 ⟨#[99, 33]⟩ 2 0 2 false) (by simp [results, Tryz.results86, go_sem, rowV]) rfl ⟨rfl, bel_alloc w _⟩
theorem rl_54 (w : World) : Calls Tryz.prog 86 #[.int .i64 54] w fun e w' => e = .returned (rowV 54 ⟨#[43, 33]⟩ 2 0 3 false) ∧ Below w.heap.size w w' := by
  go_enter Tryz.func86, Tryz.ntmps86
  go_wp2
  exact bodyPost_ret (v := rowV 54 ⟨#[43, 33]⟩ 2 0 3 false) (by simp [results, Tryz.results86, go_sem, rowV]) rfl ⟨rfl, bel_alloc w _⟩
theorem rl_55 (w : World) : Calls Tryz.prog 86 #[.int .i64 55] w fun e w' => e = .returned (rowV 55 ⟨#[62, 114]⟩ 1 0 1 false) ∧ Below w.heap.size w w' := by
  go_enter Tryz.func86, Tryz.ntmps86
  go_wp2
  exact bodyPost_ret (v := rowV 55 ⟨#[62, 114]⟩ 1 0 1 false) (by simp [results, Tryz.results86, go_sem, rowV]) rfl ⟨rfl, bel_alloc w _⟩
theorem rl_56 (w : World) : Calls Tryz.prog 86 #[.int .i64 56] w fun e w' => e = .returned (rowV 56 ⟨#[114, 62]⟩ 0 1 1 false) ∧ Below w.heap.size w w' := by
  go_enter Tryz.func86, Tryz.ntmps86
  go_wp2
  exact bodyPost_ret (v := rowV 56 ⟨#[114, 62]⟩ 0 1 1 false) (by simp [results, Tryz.results86, go_sem, rowV]) rfl ⟨rfl, bel_alloc w _⟩
theorem rl_57 (w : World) : Calls Tryz.prog 86 #[.int .i64 57] w fun e w' => e = .returned (rowV 57 ⟨#[114, 64]⟩ 0 1 1 false) ∧ Below w.heap.size w w' := by
  go_enter Tryz.func86, Tryz.ntmps86
  go_wp2
  exact bodyPost_ret (v := rowV 57 ⟨#[114, 64]⟩ 0 1 1 false) (by simp [results, Tryz.results86, go_sem, rowV]) rfl ⟨rfl, bel_alloc w _⟩
theorem rl_58 (w : World) : Calls Tryz.prog 86 #[.int .i64 58] w fun e w' => e = .returned (rowV 58 ⟨#[105]⟩ 0 1 1 false) ∧ Below w.heap.size w w' := by
  go_enter Tryz.func86, Tryz.ntmps86
  go_wp2
  exact bodyPost_ret (v := rowV 58 ⟨#[105]⟩ 0 1 1 false) (by simp [results, Tryz.results86, go_sem, rowV]) rfl ⟨rfl, bel_alloc w _⟩
theorem rl_59 (w : World) : Calls Tryz.prog 86 #[.int .i64 59] w fun e w' => e = .returned (rowV 59 ⟨#[106]⟩ 0 1 1 false) ∧ Below w.heap.size w w' := by
  go_enter Tryz.func86, Tryz.ntmps86
  go_wp2
  exact bodyPost_ret (v := rowV 59 ⟨#[106]⟩ 0 1 1 false) (by simp [results, Tryz.results86, go_sem, rowV]) rfl ⟨rfl, bel_alloc w _⟩
theorem rl_60 (w : World) : Calls Tryz.prog 86 #[.int .i64 60] w fun e w' => e = .returned (rowV 60 ⟨#[112, 108, 111, 116]⟩ 3 0 3 false) ∧ Below w.heap.size w w' := by
  go_enter Tryz.func86, Tryz.ntmps86
  go_wp2
  exact bodyPost_ret (v := rowV 60 ⟨#[112, 108, 111, 116]⟩ 3 0 3 false) (by simp [results, Tryz.results86, go_sem, rowV]) rfl ⟨rfl, bel_alloc w _⟩
theorem rl_61 (w : World) : Calls Tryz.prog 86 #[.int .i64 61] w fun e w' => e = .returned (rowV 61 ⟨#[112, 97, 100]⟩ 0 1 1 false) ∧ Below w.heap.size w w' := by
  go_enter Tryz.func86, Tryz.ntmps86
  go_wp2
  exact bodyPost_ret (v := rowV 61 ⟨#[112, 97, 100]⟩ 0 1 1 false) (by simp [results, Tryz.results86, go_sem, rowV]) rfl ⟨rfl, bel_alloc w _⟩
theorem rl_62 (w : World) : Calls Tryz.prog 86 #[.int .i64 62] w fun e w' => e = .returned (rowV 62 ⟨#[116, 111, 110, 101]⟩ 2 0 2 false) ∧ Below w.heap.size w w' := by
  go_enter Tryz.func86, Tryz.ntmps86
  go_wp2
  exact bodyPost_ret (v := rowV 62 ⟨#[116, 111, 110, 101]⟩ 2 0 2 false) (by simp [results, Tryz.results86, go_sem, rowV]) rfl ⟨rfl, bel_alloc w _⟩
theorem rl_63 (w : World) : Calls Tryz.prog 86 #[.int .i64 63] w fun e w' => e = .returned (rowV 63 ⟨#[98, 97, 110, 107]⟩ 1 0 1 false) ∧ Below w.heap.size w w' := by
  go_enter Tryz.func86, Tryz.ntmps86
  go_wp2
  exact bodyPost_ret (v := rowV 63 ⟨#[98, 97, 110, 107]⟩ 1 0 1 false) (by simp [results, Tryz.results86, go_sem, rowV]) rfl ⟨rfl, bel_alloc w _⟩
end Go.Proofs.YtgponcjjnjpfkabGreat.L
/-! The reference's table. -/
namespace Go.Proofs.YtgponcjjnjpfkabGreat.L
open Go.RowKit
open Go.Proofs
open P
set_option linter.unusedVariables false
set_option linter.unusedSimpArgs false
set_option maxHeartbeats 2000000
set_option maxRecDepth 100000
theorem rl_at (x : Nat) (h1 : 1 ≤ x) (h2 : x < 64) : (x < 21 → ∀ w, Calls Tryz.prog 84 #[.int .i64 (x : Int)] w fun e w' => e = .returned (rowN x) ∧ Below w.heap.size w w') ∧ (21 ≤ x → x < 42 → ∀ w, Calls Tryz.prog 85 #[.int .i64 (x : Int)] w fun e w' => e = .returned (rowN x) ∧ Below w.heap.size w w') ∧ (42 ≤ x → ∀ w, Calls Tryz.prog 86 #[.int .i64 (x : Int)] w fun e w' => e = .returned (rowN x) ∧ Below w.heap.size w w') := by
  rcases num_cases x h1 h2 with rfl | rfl | rfl | rfl | rfl | rfl | rfl | rfl | rfl | rfl | rfl | rfl | rfl | rfl | rfl | rfl | rfl | rfl | rfl | rfl | rfl | rfl | rfl | rfl | rfl | rfl | rfl | rfl | rfl | rfl | rfl | rfl | rfl | rfl | rfl | rfl | rfl | rfl | rfl | rfl | rfl | rfl | rfl | rfl | rfl | rfl | rfl | rfl | rfl | rfl | rfl | rfl | rfl | rfl | rfl | rfl | rfl | rfl | rfl | rfl | rfl | rfl | rfl
  · exact ⟨fun _ => rl_1, fun h => absurd h (by decide), fun h => absurd h (by decide)⟩
  · exact ⟨fun _ => rl_2, fun h => absurd h (by decide), fun h => absurd h (by decide)⟩
  · exact ⟨fun _ => rl_3, fun h => absurd h (by decide), fun h => absurd h (by decide)⟩
  · exact ⟨fun _ => rl_4, fun h => absurd h (by decide), fun h => absurd h (by decide)⟩
  · exact ⟨fun _ => rl_5, fun h => absurd h (by decide), fun h => absurd h (by decide)⟩
  · exact ⟨fun _ => rl_6, fun h => absurd h (by decide), fun h => absurd h (by decide)⟩
  · exact ⟨fun _ => rl_7, fun h => absurd h (by decide), fun h => absurd h (by decide)⟩
  · exact ⟨fun _ => rl_8, fun h => absurd h (by decide), fun h => absurd h (by decide)⟩
  · exact ⟨fun _ => rl_9, fun h => absurd h (by decide), fun h => absurd h (by decide)⟩
  · exact ⟨fun _ => rl_10, fun h => absurd h (by decide), fun h => absurd h (by decide)⟩
  · exact ⟨fun _ => rl_11, fun h => absurd h (by decide), fun h => absurd h (by decide)⟩
  · exact ⟨fun _ => rl_12, fun h => absurd h (by decide), fun h => absurd h (by decide)⟩
  · exact ⟨fun _ => rl_13, fun h => absurd h (by decide), fun h => absurd h (by decide)⟩
  · exact ⟨fun _ => rl_14, fun h => absurd h (by decide), fun h => absurd h (by decide)⟩
  · exact ⟨fun _ => rl_15, fun h => absurd h (by decide), fun h => absurd h (by decide)⟩
  · exact ⟨fun _ => rl_16, fun h => absurd h (by decide), fun h => absurd h (by decide)⟩
  · exact ⟨fun _ => rl_17, fun h => absurd h (by decide), fun h => absurd h (by decide)⟩
  · exact ⟨fun _ => rl_18, fun h => absurd h (by decide), fun h => absurd h (by decide)⟩
  · exact ⟨fun _ => rl_19, fun h => absurd h (by decide), fun h => absurd h (by decide)⟩
  · exact ⟨fun _ => rl_20, fun h => absurd h (by decide), fun h => absurd h (by decide)⟩
  · exact ⟨fun h => absurd h (by decide), fun _ _ => rl_21, fun h => absurd h (by decide)⟩
  · exact ⟨fun h => absurd h (by decide), fun _ _ => rl_22, fun h => absurd h (by decide)⟩
  · exact ⟨fun h => absurd h (by decide), fun _ _ => rl_23, fun h => absurd h (by decide)⟩
  · exact ⟨fun h => absurd h (by decide), fun _ _ => rl_24, fun h => absurd h (by decide)⟩
  · exact ⟨fun h => absurd h (by decide), fun _ _ => rl_25, fun h => absurd h (by decide)⟩
  · exact ⟨fun h => absurd h (by decide), fun _ _ => rl_26, fun h => absurd h (by decide)⟩
  · exact ⟨fun h => absurd h (by decide), fun _ _ => rl_27, fun h => absurd h (by decide)⟩
  · exact ⟨fun h => absurd h (by decide), fun _ _ => rl_28, fun h => absurd h (by decide)⟩
  · exact ⟨fun h => absurd h (by decide), fun _ _ => rl_29, fun h => absurd h (by decide)⟩
  · exact ⟨fun h => absurd h (by decide), fun _ _ => rl_30, fun h => absurd h (by decide)⟩
  · exact ⟨fun h => absurd h (by decide), fun _ _ => rl_31, fun h => absurd h (by decide)⟩
  · exact ⟨fun h => absurd h (by decide), fun _ _ => rl_32, fun h => absurd h (by decide)⟩
  · exact ⟨fun h => absurd h (by decide), fun _ _ => rl_33, fun h => absurd h (by decide)⟩
  · exact ⟨fun h => absurd h (by decide), fun _ _ => rl_34, fun h => absurd h (by decide)⟩
  · exact ⟨fun h => absurd h (by decide), fun _ _ => rl_35, fun h => absurd h (by decide)⟩
  · exact ⟨fun h => absurd h (by decide), fun _ _ => rl_36, fun h => absurd h (by decide)⟩
  · exact ⟨fun h => absurd h (by decide), fun _ _ => rl_37, fun h => absurd h (by decide)⟩
  · exact ⟨fun h => absurd h (by decide), fun _ _ => rl_38, fun h => absurd h (by decide)⟩
  · exact ⟨fun h => absurd h (by decide), fun _ _ => rl_39, fun h => absurd h (by decide)⟩
  · exact ⟨fun h => absurd h (by decide), fun _ _ => rl_40, fun h => absurd h (by decide)⟩
  · exact ⟨fun h => absurd h (by decide), fun _ _ => rl_41, fun h => absurd h (by decide)⟩
  · exact ⟨fun h => absurd h (by decide), fun _ h => absurd h (by decide), fun _ => rl_42⟩
  · exact ⟨fun h => absurd h (by decide), fun _ h => absurd h (by decide), fun _ => rl_43⟩
  · exact ⟨fun h => absurd h (by decide), fun _ h => absurd h (by decide), fun _ => rl_44⟩
  · exact ⟨fun h => absurd h (by decide), fun _ h => absurd h (by decide), fun _ => rl_45⟩
  · exact ⟨fun h => absurd h (by decide), fun _ h => absurd h (by decide), fun _ => rl_46⟩
  · exact ⟨fun h => absurd h (by decide), fun _ h => absurd h (by decide), fun _ => rl_47⟩
  · exact ⟨fun h => absurd h (by decide), fun _ h => absurd h (by decide), fun _ => rl_48⟩
  · exact ⟨fun h => absurd h (by decide), fun _ h => absurd h (by decide), fun _ => rl_49⟩
  · exact ⟨fun h => absurd h (by decide), fun _ h => absurd h (by decide), fun _ => rl_50⟩
  · exact ⟨fun h => absurd h (by decide), fun _ h => absurd h (by decide), fun _ => rl_51⟩
  · exact ⟨fun h => absurd h (by decide), fun _ h => absurd h (by decide), fun _ => rl_52⟩
  · exact ⟨fun h => absurd h (by decide), fun _ h => absurd h (by decide), fun _ => rl_53⟩
  · exact ⟨fun h => absurd h (by decide), fun _ h => absurd h (by decide), fun _ => rl_54⟩
  · exact ⟨fun h => absurd h (by decide), fun _ h => absurd h (by decide), fun _ => rl_55⟩
  · exact ⟨fun h => absurd h (by decide), fun _ h => absurd h (by decide), fun _ => rl_56⟩
  · exact ⟨fun h => absurd h (by decide), fun _ h => absurd h (by decide), fun _ => rl_57⟩
  · exact ⟨fun h => absurd h (by decide), fun _ h => absurd h (by decide), fun _ => rl_58⟩
  · exact ⟨fun h => absurd h (by decide), fun _ h => absurd h (by decide), fun _ => rl_59⟩
  · exact ⟨fun h => absurd h (by decide), fun _ h => absurd h (by decide), fun _ => rl_60⟩
  · exact ⟨fun h => absurd h (by decide), fun _ h => absurd h (by decide), fun _ => rl_61⟩
  · exact ⟨fun h => absurd h (by decide), fun _ h => absurd h (by decide), fun _ => rl_62⟩
  · exact ⟨fun h => absurd h (by decide), fun _ h => absurd h (by decide), fun _ => rl_63⟩
theorem rrow_at (x : Nat) (h1 : 1 ≤ x) (h2 : x < 64) (w : World) : Calls Tryz.prog 55 #[.int .i64 (x : Int)] w fun e w' => e = .returned (rowN x) ∧ Below w.heap.size w w' := by
  have hl := rl_at x h1 h2
  have k1 : (x : Int) < 21 ∨ ¬ (x : Int) < 21 := by omega
  have k2 : (x : Int) < 42 ∨ ¬ (x : Int) < 42 := by omega
  have i1 : (x : Int) < 21 → x < 21 := by omega
  have i2 : ¬ (x : Int) < 21 → 21 ≤ x := by omega
  have i3 : (x : Int) < 42 → x < 42 := by omega
  have i4 : ¬ (x : Int) < 42 → 42 ≤ x := by omega
  unfold rowN rowV at *
  obtain ⟨wA, hA⟩ : ∃ wA, w.alloc (.cells #[.int .i64 0, .string { data := #[] }, .int .i64 0, .int .i64 0, .int .i64 0, .bool false] 57) = wA := ⟨_, rfl⟩
  have hb : Below w.heap.size w wA := by rw [← hA]; exact (Below.refl _ w).alloc (Nat.le_refl _) _
  have hz : wA.heap[w.heap.size]? = some (.cells zR 57 (0, 0)) := by rw [← hA]; exact heap_alloc_new w _
  generalize nm x = a1 at *
  generalize ri x = a2 at *
  generalize ro x = a3 at *
  generalize rc x = a4 at *
  generalize rb x = a5 at *
  generalize (x : Int) = a0 at *
  rcases k1 with k | k
  · have d1 : decide (a0 < 21) = true := decide_eq_true k
    have hc := hl.1 (i1 k)
    clear hl k2 i1 i2 i3 i4
    go_enter Tryz.func55, Tryz.ntmps55
    go_wp2_with fail
    refine (hc wA).mono ?_
    rintro e w1 ⟨rfl, h1⟩
    have hz1 : w1.heap[w.heap.size]? = some (.cells zR 57 (0, 0)) := (h1.block _ (S.lt_of hz)).trans hz
    have hb1 : Below w.heap.size w w1 := hb.trans ⟨h1.os, h1.tape, h1.output, h1.size, fun k hk => h1.block k (Nat.lt_of_lt_of_le hk hb.size)⟩
    have hfin := setRow_heap w1 w.heap.size _ #[.int .i64 a0, .string a1, .int .i64 a2, .int .i64 a3, .int .i64 a4, .bool a5] _ _ hz1
    have hbf := Below.setRow hb1 w.heap.size (Nat.le_refl _) #[.int .i64 a0, .string a1, .int .i64 a2, .int .i64 a3, .int .i64 a4, .bool a5]
    go_wp2_with (refine wpList_store_row rfl 57 _ _ rfl w.heap.size _ rfl rfl 57 zR hz1 (by exact sizeR) (by rfl) (by simp [Value.oneCell']) ?_)
    exact bodyPost_ret (results_cell_row rfl _ _ w.heap.size 57 _ (0, 0) _ rfl hfin Tryz.underlying57 rfl (by exact sizeR)) rfl ⟨rfl, hbf⟩
  have d1 : decide (a0 < 21) = false := decide_eq_false k
  rcases k2 with k' | k'
  · have d2 : decide (a0 < 42) = true := decide_eq_true k'
    have hc := hl.2.1 (i2 k) (i3 k')
    clear hl i1 i2 i3 i4
    go_enter Tryz.func55, Tryz.ntmps55
    go_wp2_with fail
    refine (hc wA).mono ?_
    rintro e w1 ⟨rfl, h1⟩
    have hz1 : w1.heap[w.heap.size]? = some (.cells zR 57 (0, 0)) := (h1.block _ (S.lt_of hz)).trans hz
    have hb1 : Below w.heap.size w w1 := hb.trans ⟨h1.os, h1.tape, h1.output, h1.size, fun k hk => h1.block k (Nat.lt_of_lt_of_le hk hb.size)⟩
    have hfin := setRow_heap w1 w.heap.size _ #[.int .i64 a0, .string a1, .int .i64 a2, .int .i64 a3, .int .i64 a4, .bool a5] _ _ hz1
    have hbf := Below.setRow hb1 w.heap.size (Nat.le_refl _) #[.int .i64 a0, .string a1, .int .i64 a2, .int .i64 a3, .int .i64 a4, .bool a5]
    go_wp2_with (refine wpList_store_row rfl 57 _ _ rfl w.heap.size _ rfl rfl 57 zR hz1 (by exact sizeR) (by rfl) (by simp [Value.oneCell']) ?_)
    exact bodyPost_ret (results_cell_row rfl _ _ w.heap.size 57 _ (0, 0) _ rfl hfin Tryz.underlying57 rfl (by exact sizeR)) rfl ⟨rfl, hbf⟩
  · have d2 : decide (a0 < 42) = false := decide_eq_false k'
    have hc := hl.2.2 (i4 k')
    clear hl i1 i2 i3 i4
    go_enter Tryz.func55, Tryz.ntmps55
    go_wp2_with fail
    refine (hc wA).mono ?_
    rintro e w1 ⟨rfl, h1⟩
    have hz1 : w1.heap[w.heap.size]? = some (.cells zR 57 (0, 0)) := (h1.block _ (S.lt_of hz)).trans hz
    have hb1 : Below w.heap.size w w1 := hb.trans ⟨h1.os, h1.tape, h1.output, h1.size, fun k hk => h1.block k (Nat.lt_of_lt_of_le hk hb.size)⟩
    have hfin := setRow_heap w1 w.heap.size _ #[.int .i64 a0, .string a1, .int .i64 a2, .int .i64 a3, .int .i64 a4, .bool a5] _ _ hz1
    have hbf := Below.setRow hb1 w.heap.size (Nat.le_refl _) #[.int .i64 a0, .string a1, .int .i64 a2, .int .i64 a3, .int .i64 a4, .bool a5]
    go_wp2_with (refine wpList_store_row rfl 57 _ _ rfl w.heap.size _ rfl rfl 57 zR hz1 (by exact sizeR) (by rfl) (by simp [Value.oneCell']) ?_)
    exact bodyPost_ret (results_cell_row rfl _ _ w.heap.size 57 _ (0, 0) _ rfl hfin Tryz.underlying57 rfl (by exact sizeR)) rfl ⟨rfl, hbf⟩
end Go.Proofs.YtgponcjjnjpfkabGreat.L
/-! born. -/
namespace Go.Proofs.YtgponcjjnjpfkabGreat.L
open Go.RowKit
open Go.Proofs
open P
set_option linter.unusedVariables false
set_option linter.unusedSimpArgs false
set_option maxHeartbeats 4000000
set_option maxRecDepth 100000
theorem born_any (p q : Option Addr) (c d : Nat) (data : List Int) (ret : List (Int × Int)) (hc : data.length ≤ c) (hd : ret.length ≤ d) (hpc : p = none → c = 0) (hpd : q = none → d = 0) (hr : data.length ≤ S.room) (hr2 : ret.length ≤ S.room) (w : World) (h1 : S.Sl S.eU 1 w p data) (h2 : S.Sl S.eK 2 w q ret) :
    Calls Tryz.prog 6 #[.slice p data.length c, .slice q ret.length d] w fun e w' => BornR w w' e (data.take 256) ((ret.take 128).map nk) := by
  have H1 := S.hid h1
  have H2 := S.hid h2
  clear h1 h2
  unfold S.room at hr hr2
  go_enter Tryz.func6, Tryz.ntmps6
  go_upto_region 1 with fail
  go_cut [0] (fun s0 wc => S.RowU wc w.heap.size s0 (data.take 256) ∧ Below w.heap.size w wc)
  case first =>
    have hr0 := S.own_empty w 31 1
    have hb0 : Below w.heap.size w (w.alloc (.cells #[] 31)) := bel_alloc w _
    have fin : ∀ n, (data.take 256).length = n → ∀ v' w', w'.ownsRow w.heap.size 31 1 v' n (S.en S.eU (data.take 256)) → S.Grew (w.alloc (.cells #[] 31)) w' (.slice (some ⟨w.heap.size, 0, none⟩) 0 0) v' → S.RowU w' w.heap.size v' (data.take 256) ∧ Below w.heap.size w w' := fun n e v' w' a b => ⟨by subst e; exact a, b.belowAll (fun g e => (hr0.lt g e).1) hb0 (Nat.le_refl _)⟩
    have hcs : S.Cs (w.alloc (.cells #[] 31)) (.slice p (data.take 256).length c) 1 (data.take 256).length (S.en S.eU (data.take 256)) := ((ls_of (H1.out.take 256) hpc (by rw [List.length_take]; omega)).below hb0).cs S.hU (by omega) S.oneU
    have FI := S.hid fin
    have HR := S.hid hr0
    have HC := S.hid hcs
    have HB := S.hid hb0
    clear fin hr0 hcs hb0
    by_cases a : 256 < data.length
    · have d1 : decide ((256 : Int) < (data.length : Int)) = true := decide_eq_true (by omega)
      have hcc : 256 ≤ c := by omega
      have hl : (data.take 256).length = 256 := by rw [List.length_take]; omega
      rw [hl] at HC
      have HL := S.hid hl
      clear hl
      go_wp2_with (first | (at_builtin; refine S.wpList_append_row _ rfl _ _ 22 31 _ 1 2 Tryz.underlying22 S.info32 rfl (by decide) rfl w.heap.size _ 0 [] rfl HR.out _ 256 (S.en S.eU (data.take 256)) rfl HC.out (by unfold S.room; omega) (by unfold maxLen; omega) HB.out.size ?_))
      intro v' w' hr hg
      have hq := FI.out _ HL.out v' w' hr hg
      go_wp2
      go_meet
      case rel => exact hq
    · have d1 : decide ((256 : Int) < (data.length : Int)) = false := decide_eq_false (by omega)
      have hl : (data.take 256).length = data.length := by rw [List.length_take]; omega
      rw [hl] at HC
      have HL := S.hid hl
      clear hl
      go_wp2_with (first | (at_builtin; refine S.wpList_append_row _ rfl _ _ 22 31 _ 1 2 Tryz.underlying22 S.info32 rfl (by decide) rfl w.heap.size _ 0 [] rfl HR.out _ data.length (S.en S.eU (data.take 256)) rfl HC.out (by unfold S.room; omega) (by unfold maxLen; omega) HB.out.size ?_))
      intro v' w' hr hg
      have hq := FI.out _ HL.out v' w' hr hg
      go_wp2
      go_meet
      case rel => exact hq
  case rest =>
    obtain ⟨wA, rfl⟩ : ∃ wA, wA = wc := ⟨_, rfl⟩
    obtain ⟨hU, hB⟩ := hcut
    have HU := S.hid hU
    have HB0 := S.hid hB
    have H2b := S.hid (H2.out.below hB)
    clear hU hB H1 H2
    go_upto_region 2 with fail
    go_cut [1] (fun s1 w2 => S.RowK w2 wA.heap.size s1 (ret.take 128) ∧ Below wA.heap.size wA w2)
    case first =>
      have hr0 := S.own_empty wA 68 2
      have hb0 : Below wA.heap.size wA (wA.alloc (.cells #[] 68)) := bel_alloc wA _
      have fin : ∀ n, (ret.take 128).length = n → ∀ v' w', w'.ownsRow wA.heap.size 68 2 v' n (S.en S.eK (ret.take 128)) → S.Grew (wA.alloc (.cells #[] 68)) w' (.slice (some ⟨wA.heap.size, 0, none⟩) 0 0) v' → S.RowK w' wA.heap.size v' (ret.take 128) ∧ Below wA.heap.size wA w' := fun n e v' w' a b => ⟨by subst e; exact a, b.belowAll (fun g e => (hr0.lt g e).1) hb0 (Nat.le_refl _)⟩
      have hcs : S.Cs (wA.alloc (.cells #[] 68)) (.slice q (ret.take 128).length d) 2 (ret.take 128).length (S.en S.eK (ret.take 128)) := ((ls_of (H2b.out.take 128) hpd (by rw [List.length_take]; omega)).below hb0).cs S.hK (by omega) S.oneK
      have FI := S.hid fin
      have HR := S.hid hr0
      have HC := S.hid hcs
      have HB := S.hid hb0
      clear fin hr0 hcs hb0
      by_cases a : 128 < ret.length
      · have d1 : decide ((128 : Int) < (ret.length : Int)) = true := decide_eq_true (by omega)
        have hcc : 128 ≤ d := by omega
        have hl : (ret.take 128).length = 128 := by rw [List.length_take]; omega
        rw [hl] at HC
        have HL := S.hid hl
        clear hl
        go_wp2_with (first | (at_builtin; refine S.wpList_append_row _ rfl _ _ 23 68 _ 2 16 Tryz.underlying23 S.info43 rfl (by decide) rfl wA.heap.size _ 0 [] rfl HR.out _ 128 (S.en S.eK (ret.take 128)) rfl HC.out (by unfold S.room; omega) (by unfold maxLen; omega) HB.out.size ?_))
        intro v' w' hr hg
        have hq := FI.out _ HL.out v' w' hr hg
        go_wp2
        go_meet
        case rel => exact hq
      · have d1 : decide ((128 : Int) < (ret.length : Int)) = false := decide_eq_false (by omega)
        have hl : (ret.take 128).length = ret.length := by rw [List.length_take]; omega
        rw [hl] at HC
        have HL := S.hid hl
        clear hl
        go_wp2_with (first | (at_builtin; refine S.wpList_append_row _ rfl _ _ 23 68 _ 2 16 Tryz.underlying23 S.info43 rfl (by decide) rfl wA.heap.size _ 0 [] rfl HR.out _ ret.length (S.en S.eK (ret.take 128)) rfl HC.out (by unfold S.room; omega) (by unfold maxLen; omega) HB.out.size ?_))
        intro v' w' hr hg
        have hq := FI.out _ HL.out v' w' hr hg
        go_wp2
        go_meet
        case rel => exact hq
    case rest =>
      obtain ⟨w2, rfl⟩ : ∃ w2, w2 = wc := ⟨_, rfl⟩
      obtain ⟨hK, hB2⟩ := hcut
      clear H2b
      have hrl : (ret.take 128).length ≤ 128 := by rw [List.length_take]; omega
      generalize hRe : ret.take 128 = R at *
      have HRE := S.hid hRe
      clear hRe
      have hBA : Below w.heap.size w w2 := HB0.out.trans ⟨hB2.os, hB2.tape, hB2.output, hB2.size, fun k hk => hB2.block k (Nat.lt_of_lt_of_le hk HB0.out.size)⟩
      have hU2 : S.RowU w2 w.heap.size u0 (data.take 256) := S.own_kept HU.out fun g _ hg => hB2.block g hg
      have hwA : w.heap.size ≤ wA.heap.size := HB0.out.size
      have HBA := S.hid hBA
      have HU2 := S.hid hU2
      have HK := S.hid hK
      obtain ⟨p1, c1, rfl⟩ := S.ex_slice hK
      clear HU HB0 hB2 hBA hU2 hK
      go_wp2
      go_loopw [5] (fun i wr => ∃ k : Nat, k ≤ R.length ∧ i = .int .i64 (k : Int) ∧ S.RowK wr wA.heap.size (.slice p1 R.length c1) (nks k R) ∧ S.Tc (fun b => ∃ g, p1 = some ⟨g, 0, none⟩ ∧ b = g) w2 wr) (fun i _ => R.length - (intOf i).toNat)
      case atStart => exact ⟨0, by omega, rfl, by rw [nks_0]; exact HK.out, S.Tc.refl _ _⟩
      case round =>
        obtain ⟨k, hk, rfl, hK, ht⟩ := hrel
        by_cases hlt : k < R.length
        · have hi : (k : Int) < (R.length : Int) := by omega
          have hK' := hK
          have hln := nks_len k R
          obtain ⟨g, cap, e1, hg, hcap⟩ := S.rowK_pos hK (by omega)
          rw [hln] at e1
          simp only [Value.slice.injEq, true_and] at e1
          obtain ⟨rfl, rfl⟩ := e1
          have hget := S.rowK_get (g := g) (cap := c1) (l := nks k R) (by rw [hln]; exact hK) k R[k] (nks_get k R hlt)
          have gc := hget.1
          obtain ⟨b1, b2⟩ := tm4 (R[k]).1
          have HN := S.hid (nks_set k R hlt)
          obtain ⟨t, ht1⟩ : ∃ t, R[k] = t := ⟨_, rfl⟩
          have HN2 : Hid ((nks k R).set k (nk t) = nks (k + 1) R) := by rw [← ht1]; exact HN
          have HG := S.hid (nks_get k R hlt)
          rw [ht1] at gc b1 b2 HG
          clear hget HN
          have a1 : IntKind.i64.wrap (t.1.tmod 4) = t.1.tmod 4 := S.i64_id _ (by omega) (by omega)
          have a2 : IntKind.i64.wrap (t.1.tmod 4 + 4) = t.1.tmod 4 + 4 := S.i64_id _ (by omega) (by omega)
          obtain ⟨b3, b4⟩ := tm4 (t.1.tmod 4 + 4)
          have a3 : IntKind.i64.wrap ((t.1.tmod 4 + 4).tmod 4) = (t.1.tmod 4 + 4).tmod 4 := S.i64_id _ (by omega) (by omega)
          have a4 : IntKind.i64.wrap (1 + (t.1.tmod 4 + 4).tmod 4) = 1 + (t.1.tmod 4 + 4).tmod 4 := S.i64_id _ (by omega) (by omega)
          have a5 : IntKind.i64.wrap ((k : Int) + 1) = ((k + 1 : Nat) : Int) := S.i64_id _ (by omega) (by omega)
          have hfz : wr.frozen? ⟨g, k * 2, none⟩ = false := by
            rcases hK.2 with ⟨e, _⟩ | ⟨g', cap', cur, e, _, hcur, _⟩
            · cases e
            · simp only [Value.slice.injEq, Option.some.injEq, Addr.mk.injEq, true_and, and_true] at e
              obtain ⟨rfl, _⟩ := e
              simp [World.frozen?, hcur]
          have hnew : S.RowK (wr.setCell ⟨g, k * 2, none⟩ (.int .i64 (1 + (t.1.tmod 4 + 4).tmod 4))) wA.heap.size (.slice (some ⟨g, 0, none⟩) R.length c1) (nks (k + 1) R) := by
            have hk2 : k < (nks k R).length := by rw [hln]; exact hlt
            have hK2 : wr.ownsRow wA.heap.size 68 2 (.slice (some ⟨g, 0, none⟩) R.length c1) R.length (S.en S.eK (nks k R)) := by have := hK; unfold S.RowK at this; rw [hln] at this; exact this
            have := S.own_set hK2 (k * 2) (by rw [S.en_len S.hK]; omega) (.int .i64 (1 + (t.1.tmod 4 + 4).tmod 4))
            rw [enK_at _ _ _ hk2] at this
            have e2 : (nks k R)[k].2 = t.2 := by
              have := HG.out
              rw [List.getElem?_eq_getElem hk2] at this
              exact congrArg Prod.snd (Option.some.inj this)
            rw [e2] at this
            unfold S.RowK
            rw [nks_len, ← HN2.out]
            exact this
          have htn : S.Tc (fun b => ∃ g_1, some (⟨g, 0, none⟩ : Addr) = some ⟨g_1, 0, none⟩ ∧ b = g_1) w2 (wr.setCell ⟨g, k * 2, none⟩ (.int .i64 (1 + (t.1.tmod 4 + 4).tmod 4))) := ht.setCell g _ ⟨g, rfl, rfl⟩ _
          have HX := S.hid (And.intro hnew htn)
          clear hnew htn hK hK' ht HN2 HG ht1 b1 b2 b3 b4 hcap hln
          go_wp2
          refine ⟨⟨k + 1, by omega, by go_num, HX.out.1, HX.out.2⟩, ?_⟩
          simp [intOf]; omega
        · obtain rfl : k = R.length := by omega
          have hi : ¬ ((R.length : Nat) : Int) < (R.length : Int) := by omega
          rw [nks_all] at hK
          have hKl : (R.map nk).length = R.length := by simp
          have hU3 : S.RowU wr w.heap.size u0 (data.take 256) := S.own_kept HU2.out fun g e hg => ht.block g hg (by
            rintro ⟨g', e', rfl⟩
            subst e'
            exact own_apart HU2.out HK.out _ e (by simp [Value.ownBlock]))
          have hB3 : Below w.heap.size w wr := HBA.out.trans ⟨ht.os, ht.tape, ht.output, ht.size, fun k hk => ht.block k (Nat.lt_of_lt_of_le hk HBA.out.size) (by
            rintro ⟨g', e', rfl⟩
            subst e'
            have := (HK.out.lt k (by simp [Value.ownBlock])).1
            omega)⟩
          have hDl : (data.take 256).length ≤ 256 := by rw [List.length_take]; omega
          have hR1 : (R.map nk).length ≤ 128 := by omega
          have hok : S.mayS (data.take 256) (R.map nk) = true := by
            unfold S.mayS
            rw [decide_eq_true hDl, decide_eq_true hR1, S.okR_yes _ (fun j a hj => ?_)]
            · rfl
            · rw [List.getElem?_map] at hj
              cases e : R[j]? with
              | none => rw [e] at hj; cases hj
              | some b =>
                rw [e] at hj
                cases hj
                have := tm4 (b.1.tmod 4 + 4)
                have h2 := tm4 b.1
                have h3 : 0 ≤ (b.1.tmod 4 + 4).tmod 4 := Int.tmod_nonneg 4 (by omega)
                exact S.okK_t (by simp only [nk]; omega) (by simp only [nk]; omega)
          generalize hDe : data.take 256 = D at *
          generalize hR1e : R.map nk = R1 at *
          have HDE := S.hid hDe
          have HR1E := S.hid hR1e
          clear hDe hR1e
          have HU3 := S.hid hU3
          have HB3 := S.hid hB3
          have HK3 := S.hid hK
          have HOK := S.hid hok
          have hrl1 : R.length = R1.length := hKl.symm
          rw [hrl1] at HK3 ⊢
          have hi2 : ¬ ((R1.length : Nat) : Int) < (R1.length : Int) := by omega
          obtain ⟨p0, c0, rfl⟩ := S.ex_slice hU3
          have hr3 := S.own_empty wr 31 1
          have hb3 := bel_alloc wr (.cells #[] 31)
          have cs3 := (hU3.ls.below hb3).cs S.hU (by omega) S.oneU
          have HZ := S.hid hwA
          clear HBA HU2 HK hU3 hB3 hK hok ht hKl hrl1 hi hlt hk hwA hrl hc hd hpc hpd hr hr2
          go_wp2_with (first | (at_builtin; refine S.wpList_append_row _ rfl _ _ 22 31 _ 1 2 Tryz.underlying22 S.info32 rfl (by decide) rfl wr.heap.size _ 0 [] rfl hr3 _ D.length (S.en S.eU D) rfl cs3 (by unfold S.room; omega) (by unfold maxLen; omega) hb3.size ?_))
          intro v3 w4 h4 g4
          have b4 : Below wr.heap.size wr w4 := g4.belowAll (fun g e => (hr3.lt g e).1) hb3 (Nat.le_refl _)
          have hv3 : S.RowU w4 wr.heap.size v3 D := by simpa [S.RowU] using h4
          have hK4 : S.RowK w4 wA.heap.size (.slice p1 R1.length c1) R1 := S.own_kept HK3.out fun g _ hg => b4.block g hg
          have hr5 := S.own_empty w4 68 2
          have hb5 := bel_alloc w4 (.cells #[] 68)
          have cs5 := (hK4.ls.below hb5).cs S.hK (by omega) S.oneK
          have HV3 := S.hid hv3
          have HB4 := S.hid b4
          clear hr3 hb3 cs3 h4 g4 b4 hv3 hK4
          go_wp2_with (first | (at_builtin; refine S.wpList_append_row _ rfl _ _ 23 68 _ 2 16 Tryz.underlying23 S.info43 rfl (by decide) rfl w4.heap.size _ 0 [] rfl hr5 _ R1.length (S.en S.eK R1) rfl cs5 (by unfold S.room; omega) (by unfold maxLen; omega) hb5.size ?_))
          intro v4 w6 h6 g6
          have b6 : Below w4.heap.size w4 w6 := g6.belowAll (fun g e => (hr5.lt g e).1) hb5 (Nat.le_refl _)
          have hv4 : S.RowK w6 w4.heap.size v4 R1 := by simpa [S.RowK] using h6
          have hv3 : S.RowU w6 wr.heap.size v3 D := S.own_kept HV3.out fun g _ hg => b6.block g hg
          obtain ⟨p3, c3, rfl, -, sl3⟩ := hv3.ls.ex
          obtain ⟨p4, c4, rfl, -, sl4⟩ := hv4.ls.ex
          have hst := S.stacks_any p3 p4 c3 c4 D R1 (by unfold S.room; omega) (by unfold S.room; omega) w6 sl3 sl4
          have b46 : Below wr.heap.size wr w6 := HB4.out.trans ⟨b6.os, b6.tape, b6.output, b6.size, fun k hk => b6.block k (Nat.lt_of_lt_of_le hk HB4.out.size)⟩
          have HB6 := S.hid b46
          clear hr5 hb5 cs5 h6 g6 b6 hv3 hv4 sl3 sl4 b46 HV3 HB4
          go_wp2_with fail
          refine hst.mono ?_
          rintro e w7 ⟨b7, ⟨_, bd, br, rfl, hD7, hR7, l1, l2, hdr⟩ | ⟨cc, _⟩⟩
          rotate_left
          · exfalso; rw [HOK.out] at cc; cases cc
          have b67 : Below wr.heap.size wr w7 := HB6.out.trans ⟨b7.os, b7.tape, b7.output, b7.size, fun k hk => b7.block k (Nat.lt_of_lt_of_le hk HB6.out.size)⟩
          have hs7 : wr.heap.size ≤ bd ∧ wr.heap.size ≤ br := ⟨Nat.le_trans HB6.out.size l1, Nat.le_trans HB6.out.size l2⟩
          obtain ⟨w8, hw8⟩ : ∃ w8, ((w7.alloc (.cells #[.int .u8 1, .int .u8 2, .int .u8 3] 5)).alloc (.cells #[.int .u8 4] 5)).alloc (.cells #[.int .i64 0, .slice (some ⟨w7.heap.size, 0, none⟩) 3 3, .int .i64 9, .slice (some ⟨w7.heap.size + 1, 0, none⟩) 1 1] 72) = w8 := ⟨_, rfl⟩
          have b78 : Below w7.heap.size w7 w8 := by rw [← hw8]; exact (((Below.refl _ w7).alloc (Nat.le_refl _) _).alloc (by simp) _).alloc (by simp; omega) _
          have hbn : M.BnS w8 (some ⟨w7.heap.size + 2, 0, none⟩) bkB := by rw [← hw8]; exact bnsB w7
          have hnw : Calls Tryz.prog 27 #[.slice (some ⟨w7.heap.size + 2, 0, none⟩) 2 2] w8 fun e w' => ∃ b, e = .returned (.tuple #[.pointer (some ⟨b, 0, none⟩), .int .i64 0]) ∧ M.HasM w' (fun k => w8.heap.size ≤ k) b mB ∧ Below w8.heap.size w8 w' := M.new_yes (some ⟨w7.heap.size + 2, 0, none⟩) 2 bkB (by decide) w8 hbn mayBk
          have HN7 := S.hid (And.intro hD7 hR7)
          have HB7 := S.hid (And.intro b67 b78)
          have HL7 := S.hid (And.intro hs7 hdr)
          have HBN := S.hid hbn
          clear hst b7 hD7 hR7 l1 l2 hdr b67 hs7 b78 hbn HB6 HOK
          go_wp2_with fail
          refine hnw.mono ?_
          rintro e w9 ⟨bm, rfl, hM9, b9⟩
          have hrn : Calls Tryz.prog 28 #[.slice (some ⟨w7.heap.size + 2, 0, none⟩) 2 2] w9 fun e w' => ∃ b, e = .returned (.tuple #[.pointer (some ⟨b, 0, none⟩), .int .i64 0]) ∧ M.HasR w' (fun k => w9.heap.size ≤ k) b (M.padB bkB) M.ms0 ∧ Below w9.heap.size w9 w' := M.rnew_yes (some ⟨w7.heap.size + 2, 0, none⟩) 2 bkB (by decide) w9 (HBN.out.below b9) mayBk (by decide)
          have HM9 := S.hid hM9
          have HB9 := S.hid b9
          clear hnw hM9 b9 hw8
          go_wp2_with fail
          refine hrn.mono ?_
          rintro e w10 ⟨bz, rfl, hZ10, b10⟩
          have fin := born_fin (w := w) HB3.out HU3.out HK3.out HZ.out hDl hR1 HB7.out.1 HB7.out.2 HN7.out.1 HN7.out.2 HL7.out.1 HL7.out.2 HM9.out HB9.out hZ10 b10
          have FI := S.hid fin
          clear fin hZ10 b10 hrn HM9 HB9 HBN HN7 HB7 HL7 HB3 HU3 HK3 HZ
          go_wp2
          go_ret
          rw [HDE.out, HRE.out, HR1E.out]
          exact FI.out
end Go.Proofs.YtgponcjjnjpfkabGreat.L
/-! Named. -/
namespace Go.Proofs.YtgponcjjnjpfkabGreat.P
open Go.RowKit Go.Shelf
open Go.Proofs
set_option linter.unusedVariables false
set_option linter.unusedSimpArgs false
set_option maxHeartbeats 2000000
set_option maxRecDepth 100000
attribute [local go_sem] Oper.semAt_some
theorem all_any (w : World) : Calls Tryz.prog 44 #[] w fun e w' => e = .returned (.func (.func 77) #[] #[]) ∧ w' = w := by
  go_enter Tryz.func44, Tryz.ntmps44
  go_wp2
  go_ret
  exact ⟨rfl, rfl⟩
theorem blk_kept {W W' : World} {row : Option Nat} {b : Nat} {c : Array Value} {t : TypeId} {x : Nat × Nat} (h : W.heap[b]? = some (.cells c t x)) (hg : W.grownBy W' row) (hr : ∀ r, row = some r → ∃ o : Obj, W.heap[r]? = some o ∧ o.isCells = false) : W'.heap[b]? = some (.cells c t x) := by
  refine (hg.block b (S.lt_of h) ?_).trans h
  intro e
  obtain ⟨o, ho, hc⟩ := hr b e.symm
  rw [h] at ho
  cases ho
  cases hc
def rowC (x : Nat) : Array Value := #[.int .i64 (x : Int), .string (nm x), .int .i64 (ri x), .int .i64 (ro x), .int .i64 (rc x), .bool (rb x)]
/-- Named's three blocks. -/
def NB (W : World) (B : Nat) (name : ByteArray) (c : Array Value) (b : Bool) : Prop := W.heap[B]? = some (.cells #[.string name] 9 (0, 0)) ∧ W.heap[B + 1]? = some (.cells c 57 (0, 0)) ∧ W.heap[B + 2]? = some (.cells #[.bool b] 4 (0, 0))
theorem NB.kept {W W' : World} {row : Option Nat} {B : Nat} {name : ByteArray} {c : Array Value} {b : Bool} (h : NB W B name c b) (hg : W.grownBy W' row) (hr : ∀ r, row = some r → ∃ o : Obj, W.heap[r]? = some o ∧ o.isCells = false) : NB W' B name c b :=
  ⟨blk_kept h.1 hg hr, blk_kept h.2.1 hg hr, blk_kept h.2.2 hg hr⟩
theorem ko {W W' : World} (h : KeepsOthers W W') (p : Addr) (v : Value) : KeepsOthers W (W'.setCell p v) := h.trans (KeepsOthers.setCell _ _ _)
theorem named_yes (name : ByteArray) (hne : name.toList.isEmpty = false) (w : World) :
    Calls Tryz.prog 20 #[.string name] w fun e w' => ((∃ x, x ∈ allN ∧ (nm x).toList = name.toList ∧ e = .returned (.tuple #[rowN x, .bool true])) ∨ ((∀ x ∈ allN, (nm x).toList ≠ name.toList) ∧ e = .returned (.tuple #[rowV 0 ⟨#[]⟩ 0 0 0 false, .bool false]))) ∧ Below w.heap.size w w' := by
  refine (callsIn_wide (n := 9)).1 ?_
  refine callsIn_of_wp_marks Tryz.func20 rfl trivial ?_ rfl
  simp only [Tryz.ntmps20, List.size_toArray, List.length_cons, List.length_nil, Nat.reduceAdd, Nat.reduceSub, Array.replicate_succ, Array.replicate_zero, List.push_toArray, List.append_toArray, List.nil_append, List.cons_append]
  gi_wp2_with (refine ⟨trivial, ?_⟩; gi_at_call 44; refine (callsIn_wide.2 (all_any _)).mono ?_; rintro e w' ⟨rfl, rfl⟩)
  obtain ⟨w0, hw0⟩ : ∃ w0, ((w.alloc (.cells #[.string name] 9)).alloc (.cells #[.int .i64 0, .string { data := #[] }, .int .i64 0, .int .i64 0, .int .i64 0, .bool false] 57)).alloc (.cells #[.bool false] 4) = w0 := ⟨_, rfl⟩
  have hB0 : Below w.heap.size w w0 := by rw [← hw0]; exact (((Below.refl _ w).alloc (Nat.le_refl _) _).alloc (by simp) _).alloc (by simp; omega) _
  have hsz : w0.heap.size = w.heap.size + 3 := by rw [← hw0]; simp
  have hN0 : NB w0 w.heap.size name zR false := by
    rw [← hw0]
    have z1 : (w.alloc (.cells #[.string name] 9)).heap.size = w.heap.size + 1 := by simp
    have z2 : ((w.alloc (.cells #[.string name] 9)).alloc (.cells #[.int .i64 0, .string { data := #[] }, .int .i64 0, .int .i64 0, .int .i64 0, .bool false] 57)).heap.size = w.heap.size + 2 := by simp
    refine ⟨?_, ?_, ?_⟩
    · exact (Below.heap_alloc _ _ _ (by omega)).trans ((Below.heap_alloc _ _ _ (by omega)).trans (heap_alloc_new w _))
    · exact (Below.heap_alloc _ _ _ (by omega)).trans (heap_alloc2_new w _ _)
    · have := heap_alloc_new ((w.alloc (.cells #[.string name] 9)).alloc (.cells #[.int .i64 0, .string { data := #[] }, .int .i64 0, .int .i64 0, .int .i64 0, .bool false] 57)) (.cells #[.bool false] 4)
      rw [z2] at this; exact this
  rw [hw0]
  refine wpIn_rangeFunc_ownH rfl (by omega) (gf := 77) (lb := #[]) rfl trivial Tryz.call77 (all_stops 8 w.heap.size (by omega) w0) belowK_t (belowK_b (by omega)) (Below.refl _ _) (fun _ => rfl)
    (fun pre W => ((∀ y ∈ pre, (nm y).toList ≠ name.toList) ∧ NB W w.heap.size name zR false) ∧ Below w.heap.size w W)
    (fun c pre W => (c = .ret ∧ (∃ y, y ∈ pre ∧ (nm y).toList = name.toList ∧ NB W w.heap.size name (rowC y) true)) ∧ Below w.heap.size w W)
    (OwnFrom.and (Own.from (fun s A B row hs hg hr => ⟨hs.1, hs.2.kept hg hr⟩) _) (ownFrom_below (Nat.le_refl _) (by omega)))
    (fun c => OwnFrom.and (Own.from (fun s A B row hs hg hr => ⟨hs.1, by obtain ⟨y, h1, h2, h3⟩ := hs.2; exact ⟨y, h1, h2, h3.kept hg hr⟩⟩) _) (ownFrom_below (Nat.le_refl _) (by omega)))
    ⟨⟨by simp, hN0⟩, hB0⟩
    (fun x a' W => ∃ Bx, w0.heap.size ≤ Bx ∧ W.heap[Bx]? = some (.cells #[.int .i64 (x : Int), .string (nm x), .int .i64 (ri x), .int .i64 (ro x), .int .i64 (rc x), .bool (rb x)] 57 (0, 0)) ∧ a' = { tmps := #[.string name, .pointer (some ⟨w.heap.size, 0, none⟩), .pointer (some ⟨w.heap.size + 1, 0, none⟩), .pointer (some ⟨w.heap.size + 1 + 1, 0, none⟩), .pointer (some ⟨Bx, 0, none⟩), .string name, .bool false, undef, .func (.func 77) #[] #[], .agg #[.int .i64 (x : Int), .string (nm x), .int .i64 (ri x), .int .i64 (ro x), .int .i64 (rc x), .bool (rb x)], undef, undef, undef, undef, undef, undef], defers := [] })
    (fun x a' s A B row hs hg hr => by obtain ⟨Bx, h1, h2, h3⟩ := hs; exact ⟨Bx, h1, blk_kept h2 hg (fun r e => (hr r e).2), h3⟩) ?assign ?body ?done ?stop
  case assign =>
    rintro l pre x W K ⟨⟨hp, hN⟩, hB⟩ hK
    have hs : w0.heap.size ≤ W.heap.size := by have := S.lt_of hN.2.2; omega
    unfold rowV
    gi_wp2
    exact hK _ _ ((KeepsOthers.alloc _ _).from _) ((Below.refl _ W).alloc (by omega) _) ⟨⟨hp, hN.kept (World.grownBy_alloc W _ none) (fun r e => by cases e)⟩, hB.alloc hB.size _⟩ ⟨W.heap.size, hs, heap_alloc_new W _, rfl⟩
  case body =>
    rintro l pre x a' W hl ⟨r, hr⟩ ⟨⟨hp, hN⟩, hB⟩ ⟨Bx, hBx, hX, rfl⟩ hlt
    have cN := S.cell_of W w.heap.size 0 [.string name] 9 _ hN.1 rfl
    have c0 := S.cell_of W Bx 0 [.int .i64 (x : Int), .string (nm x), .int .i64 (ri x), .int .i64 (ro x), .int .i64 (rc x), .bool (rb x)] 57 _ hX rfl
    have c1 := S.cell_of W Bx 1 [.int .i64 (x : Int), .string (nm x), .int .i64 (ri x), .int .i64 (ro x), .int .i64 (rc x), .bool (rb x)] 57 _ hX rfl
    have c2 := S.cell_of W Bx 2 [.int .i64 (x : Int), .string (nm x), .int .i64 (ri x), .int .i64 (ro x), .int .i64 (rc x), .bool (rb x)] 57 _ hX rfl
    have c3 := S.cell_of W Bx 3 [.int .i64 (x : Int), .string (nm x), .int .i64 (ri x), .int .i64 (ro x), .int .i64 (rc x), .bool (rb x)] 57 _ hX rfl
    have c4 := S.cell_of W Bx 4 [.int .i64 (x : Int), .string (nm x), .int .i64 (ri x), .int .i64 (ro x), .int .i64 (rc x), .bool (rb x)] 57 _ hX rfl
    have c5 := S.cell_of W Bx 5 [.int .i64 (x : Int), .string (nm x), .int .i64 (ri x), .int .i64 (ro x), .int .i64 (rc x), .bool (rb x)] 57 _ hX rfl
    have d0 := S.cell_of W (w.heap.size + 1) 0 [.int .i64 0, .string { data := #[] }, .int .i64 0, .int .i64 0, .int .i64 0, .bool false] 57 _ hN.2.1 rfl
    have d1 := S.cell_of W (w.heap.size + 1) 1 [.int .i64 0, .string { data := #[] }, .int .i64 0, .int .i64 0, .int .i64 0, .bool false] 57 _ hN.2.1 rfl
    have d2 := S.cell_of W (w.heap.size + 1) 2 [.int .i64 0, .string { data := #[] }, .int .i64 0, .int .i64 0, .int .i64 0, .bool false] 57 _ hN.2.1 rfl
    have d3 := S.cell_of W (w.heap.size + 1) 3 [.int .i64 0, .string { data := #[] }, .int .i64 0, .int .i64 0, .int .i64 0, .bool false] 57 _ hN.2.1 rfl
    have d4 := S.cell_of W (w.heap.size + 1) 4 [.int .i64 0, .string { data := #[] }, .int .i64 0, .int .i64 0, .int .i64 0, .bool false] 57 _ hN.2.1 rfl
    have d5 := S.cell_of W (w.heap.size + 1) 5 [.int .i64 0, .string { data := #[] }, .int .i64 0, .int .i64 0, .int .i64 0, .bool false] 57 _ hN.2.1 rfl
    have e0 := S.cell_of W (w.heap.size + 2) 0 [.bool false] 4 _ hN.2.2 rfl
    have f1 : ∀ i, W.frozen? ⟨w.heap.size + 1, i, none⟩ = false := fun i => S.frozen_of W (w.heap.size + 1) i [.int .i64 0, .string { data := #[] }, .int .i64 0, .int .i64 0, .int .i64 0, .bool false] 57 hN.2.1
    have f2 := S.frozen_of W (w.heap.size + 2) 0 [.bool false] 4 hN.2.2
    have hne1 : w.heap.size + 1 ≠ w.heap.size + 2 := by omega
    by_cases hx : ((nm x).toList == name.toList) = true
    · gi_wp2
      have q := S.setCell_heap _ (w.heap.size + 1) 5 _ 57 (.bool (rb x)) (S.setCell_heap _ (w.heap.size + 1) 4 _ 57 (.int .i64 (rc x)) (S.setCell_heap _ (w.heap.size + 1) 3 _ 57 (.int .i64 (ro x)) (S.setCell_heap _ (w.heap.size + 1) 2 _ 57 (.int .i64 (ri x)) (S.setCell_heap _ (w.heap.size + 1) 1 _ 57 (.string (nm x)) (S.setCell_heap W (w.heap.size + 1) 0 [.int .i64 0, .string { data := #[] }, .int .i64 0, .int .i64 0, .int .i64 0, .bool false] 57 (.int .i64 (x : Int)) hN.2.1)))))
      have t1 : ∀ (V : World) (i : Nat) (v : Value) (k : Nat), k ≠ w.heap.size + 1 → (V.setCell ⟨w.heap.size + 1, i, none⟩ v).heap[k]? = V.heap[k]? := fun V i v k h => S.setCell_other V _ _ _ _ h
      refine ⟨(ko (ko (ko (ko (ko (ko (ko (KeepsOthers.refl _) _ _) _ _) _ _) _ _) _ _) _ _) _ _).from _, ⟨rfl, x, by simp, eq_of_beq hx, ?_, ?_, ?_⟩, ?_⟩
      · rw [S.setCell_other _ _ _ _ _ (by omega), t1 _ _ _ _ (by omega), t1 _ _ _ _ (by omega), t1 _ _ _ _ (by omega), t1 _ _ _ _ (by omega), t1 _ _ _ _ (by omega), t1 _ _ _ _ (by omega)]; exact hN.1
      · rw [S.setCell_other _ _ _ _ _ (by omega)]; exact q
      · refine S.setCell_heap _ (w.heap.size + 2) 0 [.bool false] 4 _ ?_
        rw [t1 _ _ _ _ (by omega), t1 _ _ _ _ (by omega), t1 _ _ _ _ (by omega), t1 _ _ _ _ (by omega), t1 _ _ _ _ (by omega), t1 _ _ _ _ (by omega)]; exact hN.2.2
      · have t2 : ∀ (V : World), Below w.heap.size w V → ∀ (b i : Nat) (v : Value), w.heap.size ≤ b → Below w.heap.size w (V.setCell ⟨b, i, none⟩ v) := fun V h b i v hb => h.setCell (p := ⟨b, i, none⟩) hb v
        exact t2 _ (t2 _ (t2 _ (t2 _ (t2 _ (t2 _ (t2 _ hB _ _ _ (by omega)) _ _ _ (by omega)) _ _ _ (by omega)) _ _ _ (by omega)) _ _ _ (by omega)) _ _ _ (by omega)) _ _ _ (by omega)
    · have hx' : ((nm x).toList == name.toList) = false := by simpa using hx
      gi_wp2
      refine ⟨KeepsFrom.refl _ _, Below.refl _ _, ⟨fun y hy => ?_, hN⟩, hB⟩
      rcases List.mem_append.1 hy with hy | hy
      · exact hp y hy
      · simp at hy; subst hy; exact fun e => hx (by rw [e]; simp)
  case done =>
    rintro D ys W hD rfl ⟨⟨hne, hN⟩, hB⟩ hK
    have e0 := S.cell_of W (w.heap.size + 2) 0 [.bool false] 4 _ hN.2.2 rfl
    have f2 := S.frozen_of W (w.heap.size + 2) 0 [.bool false] 4 hN.2.2
    have d0 := S.cell_of W (w.heap.size + 1) 0 [.int .i64 0, .string { data := #[] }, .int .i64 0, .int .i64 0, .int .i64 0, .bool false] 57 _ hN.2.1 rfl
    have d1 := S.cell_of W (w.heap.size + 1) 1 [.int .i64 0, .string { data := #[] }, .int .i64 0, .int .i64 0, .int .i64 0, .bool false] 57 _ hN.2.1 rfl
    have d2 := S.cell_of W (w.heap.size + 1) 2 [.int .i64 0, .string { data := #[] }, .int .i64 0, .int .i64 0, .int .i64 0, .bool false] 57 _ hN.2.1 rfl
    have d3 := S.cell_of W (w.heap.size + 1) 3 [.int .i64 0, .string { data := #[] }, .int .i64 0, .int .i64 0, .int .i64 0, .bool false] 57 _ hN.2.1 rfl
    have d4 := S.cell_of W (w.heap.size + 1) 4 [.int .i64 0, .string { data := #[] }, .int .i64 0, .int .i64 0, .int .i64 0, .bool false] 57 _ hN.2.1 rfl
    have d5 := S.cell_of W (w.heap.size + 1) 5 [.int .i64 0, .string { data := #[] }, .int .i64 0, .int .i64 0, .int .i64 0, .bool false] 57 _ hN.2.1 rfl
    have f1 : ∀ i, W.frozen? ⟨w.heap.size + 1, i, none⟩ = false := fun i => S.frozen_of W (w.heap.size + 1) i [.int .i64 0, .string { data := #[] }, .int .i64 0, .int .i64 0, .int .i64 0, .bool false] 57 hN.2.1
    gi_wp2
    have q := S.setCell_heap _ (w.heap.size + 1) 5 _ 57 (.bool false) (S.setCell_heap _ (w.heap.size + 1) 4 _ 57 (.int .i64 0) (S.setCell_heap _ (w.heap.size + 1) 3 _ 57 (.int .i64 0) (S.setCell_heap _ (w.heap.size + 1) 2 _ 57 (.int .i64 0) (S.setCell_heap _ (w.heap.size + 1) 1 _ 57 (.string { data := #[] }) (S.setCell_heap W (w.heap.size + 1) 0 [.int .i64 0, .string { data := #[] }, .int .i64 0, .int .i64 0, .int .i64 0, .bool false] 57 (.int .i64 0) hN.2.1)))))
    have t1 : ∀ (V : World) (i : Nat) (v : Value) (k : Nat), k ≠ w.heap.size + 1 → (V.setCell ⟨w.heap.size + 1, i, none⟩ v).heap[k]? = V.heap[k]? := fun V i v k h => S.setCell_other V _ _ _ _ h
    have hk7 := ko (ko (ko (ko (ko (ko (ko (KeepsOthers.refl W) ⟨w.heap.size + 1, 0, none⟩ (.int .i64 0)) ⟨w.heap.size + 1, 1, none⟩ (.string { data := #[] })) ⟨w.heap.size + 1, 2, none⟩ (.int .i64 0)) ⟨w.heap.size + 1, 3, none⟩ (.int .i64 0)) ⟨w.heap.size + 1, 4, none⟩ (.int .i64 0)) ⟨w.heap.size + 1, 5, none⟩ (.bool false)) ⟨w.heap.size + 2, 0, none⟩ (.bool false)
    have HKK := hk7.same D _ hK rfl
    have HNB : NB (((((((W.setCell ⟨w.heap.size + 1, 0, none⟩ (.int .i64 0)).setCell ⟨w.heap.size + 1, 1, none⟩ (.string { data := #[] })).setCell ⟨w.heap.size + 1, 2, none⟩ (.int .i64 0)).setCell ⟨w.heap.size + 1, 3, none⟩ (.int .i64 0)).setCell ⟨w.heap.size + 1, 4, none⟩ (.int .i64 0)).setCell ⟨w.heap.size + 1, 5, none⟩ (.bool false)).setCell ⟨w.heap.size + 2, 0, none⟩ (.bool false)) w.heap.size name #[.int .i64 0, .string { data := #[] }, .int .i64 0, .int .i64 0, .int .i64 0, .bool false] false := by
      refine ⟨?_, ?_, ?_⟩
      · rw [S.setCell_other _ _ _ _ _ (by omega), t1 _ _ _ _ (by omega), t1 _ _ _ _ (by omega), t1 _ _ _ _ (by omega), t1 _ _ _ _ (by omega), t1 _ _ _ _ (by omega), t1 _ _ _ _ (by omega)]; exact hN.1
      · rw [S.setCell_other _ _ _ _ _ (by omega)]; exact q
      · refine S.setCell_heap _ (w.heap.size + 2) 0 [.bool false] 4 _ ?_
        rw [t1 _ _ _ _ (by omega), t1 _ _ _ _ (by omega), t1 _ _ _ _ (by omega), t1 _ _ _ _ (by omega), t1 _ _ _ _ (by omega), t1 _ _ _ _ (by omega)]; exact hN.2.2
    have t2 : ∀ (V : World), Below w.heap.size w V → ∀ (b i : Nat) (v : Value), w.heap.size ≤ b → Below w.heap.size w (V.setCell ⟨b, i, none⟩ v) := fun V h b i v hb => h.setCell (p := ⟨b, i, none⟩) hb v
    have HBB := t2 _ (t2 _ (t2 _ (t2 _ (t2 _ (t2 _ (t2 _ hB (w.heap.size + 1) 0 (.int .i64 0) (by omega)) (w.heap.size + 1) 1 (.string { data := #[] }) (by omega)) (w.heap.size + 1) 2 (.int .i64 0) (by omega)) (w.heap.size + 1) 3 (.int .i64 0) (by omega)) (w.heap.size + 1) 4 (.int .i64 0) (by omega)) (w.heap.size + 1) 5 (.bool false) (by omega)) (w.heap.size + 2) 0 (.bool false) (by omega)
    have hN5 := NB.kept HNB (grownBy_putObj' _ D (.deferred none)) (fun r e => by cases e; exact ⟨_, HKK, rfl⟩)
    have g0 := S.cell_of _ (w.heap.size + 1) 0 [.int .i64 0, .string { data := #[] }, .int .i64 0, .int .i64 0, .int .i64 0, .bool false] 57 _ hN5.2.1 rfl
    have g1 := S.cell_of _ (w.heap.size + 1) 1 [.int .i64 0, .string { data := #[] }, .int .i64 0, .int .i64 0, .int .i64 0, .bool false] 57 _ hN5.2.1 rfl
    have g2 := S.cell_of _ (w.heap.size + 1) 2 [.int .i64 0, .string { data := #[] }, .int .i64 0, .int .i64 0, .int .i64 0, .bool false] 57 _ hN5.2.1 rfl
    have g3 := S.cell_of _ (w.heap.size + 1) 3 [.int .i64 0, .string { data := #[] }, .int .i64 0, .int .i64 0, .int .i64 0, .bool false] 57 _ hN5.2.1 rfl
    have g4 := S.cell_of _ (w.heap.size + 1) 4 [.int .i64 0, .string { data := #[] }, .int .i64 0, .int .i64 0, .int .i64 0, .bool false] 57 _ hN5.2.1 rfl
    have g5 := S.cell_of _ (w.heap.size + 1) 5 [.int .i64 0, .string { data := #[] }, .int .i64 0, .int .i64 0, .int .i64 0, .bool false] 57 _ hN5.2.1 rfl
    have g6 := S.cell_of _ (w.heap.size + 2) 0 [.bool false] 4 _ hN5.2.2 rfl
    refine ⟨by simp, .inl ⟨_, _, rfl, run_takeDeferred HKK, ?_⟩⟩
    refine ⟨.tuple #[.agg #[.int .i64 0, .string { data := #[] }, .int .i64 0, .int .i64 0, .int .i64 0, .bool false], .bool false], ?_, .inr ⟨hne, rfl⟩, HBB.trans (belowK_b (w := w) (Nat.le_refl _) _ D _ _ (by omega) HKK rfl rfl)⟩
    simp [results, Tryz.results20, go_sem, g0, g1, g2, g3, g4, g5, g6]
  case stop =>
    rintro D c pre W hD hpre ⟨⟨rfl, y, hy, hn, hN⟩, hB⟩ hK
    gi_wp2
    have HKK := hK
    have HNB := hN
    have HBB := hB
    have hN5 := NB.kept HNB (grownBy_putObj' _ D (.deferred none)) (fun r e => by cases e; exact ⟨_, HKK, rfl⟩)
    have g0 := S.cell_of _ (w.heap.size + 1) 0 [.int .i64 (y : Int), .string (nm y), .int .i64 (ri y), .int .i64 (ro y), .int .i64 (rc y), .bool (rb y)] 57 _ hN5.2.1 rfl
    have g1 := S.cell_of _ (w.heap.size + 1) 1 [.int .i64 (y : Int), .string (nm y), .int .i64 (ri y), .int .i64 (ro y), .int .i64 (rc y), .bool (rb y)] 57 _ hN5.2.1 rfl
    have g2 := S.cell_of _ (w.heap.size + 1) 2 [.int .i64 (y : Int), .string (nm y), .int .i64 (ri y), .int .i64 (ro y), .int .i64 (rc y), .bool (rb y)] 57 _ hN5.2.1 rfl
    have g3 := S.cell_of _ (w.heap.size + 1) 3 [.int .i64 (y : Int), .string (nm y), .int .i64 (ri y), .int .i64 (ro y), .int .i64 (rc y), .bool (rb y)] 57 _ hN5.2.1 rfl
    have g4 := S.cell_of _ (w.heap.size + 1) 4 [.int .i64 (y : Int), .string (nm y), .int .i64 (ri y), .int .i64 (ro y), .int .i64 (rc y), .bool (rb y)] 57 _ hN5.2.1 rfl
    have g5 := S.cell_of _ (w.heap.size + 1) 5 [.int .i64 (y : Int), .string (nm y), .int .i64 (ri y), .int .i64 (ro y), .int .i64 (rc y), .bool (rb y)] 57 _ hN5.2.1 rfl
    have g6 := S.cell_of _ (w.heap.size + 2) 0 [.bool true] 4 _ hN5.2.2 rfl
    refine ⟨by simp, .inl ⟨_, _, rfl, run_takeDeferred HKK, ?_⟩⟩
    refine ⟨.tuple #[.agg #[.int .i64 (y : Int), .string (nm y), .int .i64 (ri y), .int .i64 (ro y), .int .i64 (rc y), .bool (rb y)], .bool true], ?_, .inl ⟨y, hpre.subset hy, hn, rfl⟩, HBB.trans (belowK_b (w := w) (Nat.le_refl _) _ D _ _ (by omega) HKK rfl rfl)⟩
    simp [results, Tryz.results20, go_sem, g0, g1, g2, g3, g4, g5, g6]
theorem named_empty (name : ByteArray) (hne : name.toList.isEmpty = true) (w : World) :
    Calls Tryz.prog 20 #[.string name] w fun e w' => e = .returned (.tuple #[rowV 0 ⟨#[]⟩ 0 0 0 false, .bool false]) ∧ Below w.heap.size w w' := by
  go_enter Tryz.func20, Tryz.ntmps20
  go_wp2
  refine bodyPost_ret (v := .tuple #[rowV 0 ⟨#[]⟩ 0 0 0 false, .bool false]) (by simp [results, Tryz.results20, go_sem, rowV]) rfl ⟨rfl, (((Below.refl _ w).alloc (Nat.le_refl _) _).alloc (by simp) _).alloc (by simp; omega) _⟩
end Go.Proofs.YtgponcjjnjpfkabGreat.P
/-! The program's side of a law's world; what Do leaves of it. -/
namespace Go.Proofs.YtgponcjjnjpfkabGreat.L
open Go.RowKit
open Go.Proofs
open P
set_option linter.unusedVariables false
set_option linter.unusedSimpArgs false
set_option maxHeartbeats 2000000
set_option maxRecDepth 100000
structure WP (W : World) (B g bd br bm : Nat) (F : Nat → Prop) (D : List Int) (R : List (Int × Int)) (m : M.MS) : Prop where
  blk : ∃ x y z : Value, W.heap[g]? = some (.cells [.pointer (some ⟨bd, 0, none⟩), .pointer (some ⟨br, 0, none⟩), .pointer (some ⟨bm, 0, none⟩), x, y, z].toArray 42 (0, 0))
  p : PS W bd br bm F D R m
  ng : ¬ F g
  lo : B ≤ g ∧ B ≤ bd ∧ B ≤ br
  lf : ∀ k, F k → B ≤ k
def WPe (W : World) (B g bd br bm : Nat) (D : List Int) (R : List (Int × Int)) (m : M.MS) : Prop := ∃ F, WP W B g bd br bm F D R m
section
variable {W W' : World} {B g bd br bm : Nat} {F : Nat → Prop} {D D' : List Int} {R R' : List (Int × Int)} {m m' : M.MS}
theorem WP.gd (h : WP W B g bd br bm F D R m) : g ≠ bd ∧ g ≠ br := by
  obtain ⟨x, y, z, hb⟩ := h.blk
  constructor
  · rintro rfl
    have := h.p.d.1
    rw [hb] at this
    injection this with this
    injection this with _ this
    cases this
  · rintro rfl
    have := h.p.r.1
    rw [hb] at this
    injection this with this
    injection this with _ this
    cases this
theorem WPe.below (h : WPe W B g bd br bm D R m) (k : Below W.heap.size W W') : WPe W' B g bd br bm D R m := by
  obtain ⟨F, h⟩ := h
  obtain ⟨x, y, z, hb⟩ := h.blk
  exact ⟨F, ⟨x, y, z, (k.block _ (S.lt_of hb)).trans hb⟩, h.p.below k, h.ng, h.lo, h.lf⟩
theorem WPe.drew (h : WPe W B g bd br bm D R m) : WPe W.drew B g bd br bm D R m := by
  obtain ⟨F, h⟩ := h
  exact ⟨F, h.blk, ⟨h.p.d, h.p.r, h.p.m.kept fun i hi _ => rfl, h.p.dr, h.p.fd, h.p.fr⟩, h.ng, h.lo, h.lf⟩
theorem WP.step (h : WP W B g bd br bm F D R m) (hB : B ≤ W.heap.size) (k : PD W W' bd br bm F D' R' m') : WPe W' B g bd br bm D' R' m' ∧ Below B W W' := by
  obtain ⟨x, y, z, hb⟩ := h.blk
  have hg := h.gd
  refine ⟨⟨_, ⟨x, y, z, (k.t.block _ (S.lt_of hb) ?_).trans hb⟩, k.s, ?_, h.lo, ?_⟩, ?_⟩
  · rintro (e | e | e)
    · exact hg.1 e
    · exact hg.2 e
    · exact h.ng e
  · rintro (e | ⟨e, _⟩)
    · exact h.ng e
    · have := S.lt_of hb; omega
  · rintro i (e | ⟨e, _⟩)
    · exact h.lf i e
    · omega
  · refine ⟨k.t.os, k.t.tape, k.t.output, k.t.size, fun i hi => k.t.block i (by omega) ?_⟩
    rintro (e | e | e)
    · have := h.lo.2.1; omega
    · have := h.lo.2.2; omega
    · have := h.lf i e; omega
theorem WPe.cells (h : WPe W B g bd br bm D R m) : W.cell? ⟨g, 0, none⟩ = some (.pointer (some ⟨bd, 0, none⟩)) ∧ W.cell? ⟨g, 1, none⟩ = some (.pointer (some ⟨br, 0, none⟩)) ∧ W.cell? ⟨g, 2, none⟩ = some (.pointer (some ⟨bm, 0, none⟩)) := by
  obtain ⟨F, h⟩ := h
  obtain ⟨x, y, z, hb⟩ := h.blk
  exact ⟨S.cell_of W g 0 _ 42 _ hb rfl, S.cell_of W g 1 _ 42 _ hb rfl, S.cell_of W g 2 _ 42 _ hb rfl⟩
theorem WPe.d (h : WPe W B g bd br bm D R m) : S.HasD W bd D := by obtain ⟨F, h⟩ := h; exact h.p.d
theorem WPe.r (h : WPe W B g bd br bm D R m) : S.HasR W br R := by obtain ⟨F, h⟩ := h; exact h.p.r
theorem WPe.mem (h : WPe W B g bd br bm D R m) : ∃ F, M.HasM W F bm m := by obtain ⟨F, h⟩ := h; exact ⟨F, h.p.m⟩
theorem WW.e {bx bq bz : Nat} {G : Nat → Prop} {ev qv : Value} (h : WW W B g bd br bm bx bq bz F G ev qv D R m) : WPe W B g bd br bm D R m := ⟨F, ⟨_, _, _, h.blk⟩, h.p, h.ng.1, h.lo, h.lf⟩
end
def okD (D : List Int) : Bool := D.all fun x => decide (0 ≤ x) && decide (x < 65536)
theorem allC {D : List Int} (h : okD D = true) : ∀ x ∈ D, C.C x := by
  intro x hx
  have := List.all_eq_true.1 h x hx
  simp only [Bool.and_eq_true, decide_eq_true_eq] at this
  exact this
def xD (op : Int) (D : List Int) (R : List (Int × Int)) (m : M.MS) : List Int := if fl op D R = 0 then nD op D R m else D
def xR (op : Int) (D : List Int) (R : List (Int × Int)) : List (Int × Int) := if fl op D R = 0 then nR op D R else R
def xM (op : Int) (D : List Int) (R : List (Int × Int)) (m : M.MS) : M.MS := if fl op D R = 0 then nM op D m else m
theorem do_w (op : Int) (hp : plain op = true) (B g bd br bm : Nat) (D : List Int) (R : List (Int × Int)) (m : M.MS) (hD : ∀ x ∈ D, C.C x) (ht : m.tones.length ≤ 999000) (W : World) (h : WPe W B g bd br bm D R m) (hB : B ≤ W.heap.size) :
    Calls Tryz.prog 21 #[.int .i64 op, .pointer (some ⟨bd, 0, none⟩), .pointer (some ⟨br, 0, none⟩), .pointer (some ⟨bm, 0, none⟩)] W fun e W' => e = .returned (.int .i64 (fl op D R)) ∧ WPe W' B g bd br bm (xD op D R m) (xR op D R) (xM op D R m) ∧ Below B W W' := by
  obtain ⟨F, h⟩ := h
  refine (do_any op hp bd br bm F D R m hD ht W h.p).mono fun e W' ⟨h1, h2, h3⟩ => ⟨h1, ?_⟩
  by_cases c : fl op D R = 0
  · rw [xD, xR, xM, if_pos c, if_pos c, if_pos c]
    exact h.step hB (h3 c)
  · rw [xD, xR, xM, if_neg c, if_neg c, if_neg c]
    have := h2 c
    exact ⟨WPe.below ⟨F, h⟩ this, this.mono hB⟩
theorem same_row (a0 : Int) (a1 : ByteArray) (a2 a3 a4 : Int) (a5 : Bool) (w : World) : Calls Tryz.prog 23 #[rowV a0 a1 a2 a3 a4 a5, rowV a0 a1 a2 a3 a4 a5] w fun e w' => e = .returned (.bool true) ∧ Below w.heap.size w w' := by
  unfold rowV
  go_enter Tryz.func23, Tryz.ntmps23
  go_wp2
  go_ret
  exact ⟨rfl, ((Below.refl _ w).alloc (Nat.le_refl _) _).alloc (by simp) _⟩
theorem nm_2dup : ∀ x ∈ allN, (nm x == (⟨#[50, 100, 117, 112]⟩ : ByteArray)) = true → x = 19 := by decide +kernel
theorem nm_19 : 19 ∈ allN ∧ (nm 19 == (⟨#[50, 100, 117, 112]⟩ : ByteArray)) = true := by decide +kernel
theorem tl_eq {a b : ByteArray} : a.toList = b.toList ↔ (a == b) = true := by
  rw [beq_toListBytes]; simp
theorem tl_nil {a : ByteArray} (h : (a == ⟨#[]⟩) = false) : a.toList.isEmpty = false := by
  rw [beq_toListBytes] at h
  cases e : a.toList with
  | nil => rw [e] at h; revert h; rw [show (⟨#[]⟩ : ByteArray).toList = [] by unfold ByteArray.toList ByteArray.toList.loop; rfl]; decide
  | cons x l => rfl
theorem ne_2dup : (⟨#[50, 100, 117, 112]⟩ : ByteArray).toList.isEmpty = false := tl_nil (by decide +kernel)
theorem named_2dup (w : World) : Calls Tryz.prog 20 #[.string ⟨#[50, 100, 117, 112]⟩] w fun e w' => e = .returned (.tuple #[rowV 19 ⟨#[50, 100, 117, 112]⟩ 2 4 2 false, .bool true]) ∧ Below w.heap.size w w' := by
  refine (named_yes ⟨#[50, 100, 117, 112]⟩ ne_2dup w).mono fun e w' ⟨h, hb⟩ => ⟨?_, hb⟩
  rcases h with ⟨x, h1, h2, h3⟩ | ⟨h1, _⟩
  · have := nm_2dup x h1 (tl_eq.1 h2)
    subst this
    exact h3
  · exact absurd (tl_eq.2 nm_19.2) (h1 19 nm_19.1)
end Go.Proofs.YtgponcjjnjpfkabGreat.L
/-! The reference's stacks: which block a call writes. -/
namespace Go.Proofs.YtgponcjjnjpfkabGreat.S
open Go.RowKit
open Go.Proofs
set_option linter.unusedVariables false
set_option linter.unusedSimpArgs false
set_option maxHeartbeats 2000000
set_option maxRecDepth 100000
theorem atB {a b : World} (g : Nat) (h : Below a.heap.size a b) : Tc (fun k => k = g) a b := ⟨h.os, h.tape, h.output, h.size, fun k hk _ => h.block k hk⟩
theorem epush_at (be B : Nat) (ev : Value) (D x : List Int) (v : Value) (w : World) (h : EV w B be ev D) (hx : Ls eU 1 w v x) (hl : D.length + x.length ≤ 256) :
    Calls Tryz.prog 9 #[.pointer (some ⟨be, 0, none⟩), v] w fun e w' => e = .returned (.int .i64 0) ∧ (∃ ev', EV w' B be ev' (D ++ x) ∧ Nw w ev ev') ∧ At be w w' := by
  obtain ⟨px, cx, rfl, _, _⟩ := hx.ex
  obtain ⟨pe, ce, rfl⟩ := ex_slice h.row
  have c0 := cell_of w be 0 _ 78 _ h.blk rfl
  have hbe := lt_of h.blk
  have hB := h.hb
  have e1 : IntKind.i64.wrap ((D.length : Int) + (x.length : Int)) = (D.length : Int) + (x.length : Int) := i64_id _ (by omega) (by omega)
  have e2 : decide ((256 : Int) < (D.length : Int) + (x.length : Int)) = false := decide_eq_false (by omega)
  have hr0 := own_empty w 31 1
  have hb0 : Below w.heap.size w (w.alloc (.cells #[] 31)) := (Below.refl _ _).alloc (Nat.le_refl _) _
  have hs0 := (h.row.ls.below hb0).cs hU (by omega) oneU
  have c1 : (w.alloc (.cells #[] 31)).cell? ⟨be, 0, none⟩ = some (.slice pe D.length ce) := (World.cell?_of_block (w := w) (Below.heap_alloc w _ be hbe)).trans c0
  have HX := hid hx
  have HE := hid h
  clear hx h
  go_enter Tryz.func9, Tryz.ntmps9
  go_wp2_with (first | (at_builtin; refine wpList_append_row _ rfl _ _ 22 31 _ 1 2 Tryz.underlying22 info32 rfl (by decide) rfl w.heap.size _ 0 [] rfl hr0 _ D.length (en eU D) rfl hs0 (by unfold room; omega) (by unfold maxLen; omega) hb0.size ?_))
  intro v1 w1 hr1 hg1
  have hb1 : Below w.heap.size w w1 := hg1.belowAll (fun g e => (hr0.lt g e).1) hb0 (Nat.le_refl _)
  have hs1 := (HX.out.below hb1).cs hU (by omega) oneU
  replace hr1 : w1.ownsRow w.heap.size 31 1 v1 D.length (en eU D) := by simpa using hr1
  have HG1 := hid hg1
  clear hr0 hs0 hg1 hb0
  go_wp2_with (first | (at_builtin; refine wpList_append_row _ rfl _ _ 22 31 _ 1 2 Tryz.underlying22 info32 rfl (by decide) rfl w.heap.size _ D.length (en eU D) rfl hr1 _ x.length (en eU x) rfl hs1 (by unfold room; omega) (by unfold maxLen; omega) hb1.size ?_))
  intro v2 w2 hr2 hg2
  obtain ⟨pv2, cv2, rfl⟩ := ex_slice hr2
  have hb2 : Below w.heap.size w w2 := hg2.belowAll (fun g e => (hr1.lt g e).1) hb1 (Nat.le_refl _)
  have hk2 := (hb2.block be hbe).trans HE.out.blk
  have c2 := cell_of w2 be 0 _ 78 _ hk2 rfl
  have z2 := frozen_of w2 be 0 _ 78 hk2
  have hfin : (∃ ev', EV (w2.setCell ⟨be, 0, none⟩ (.slice pv2 (D.length + x.length) cv2)) B be ev' (D ++ x) ∧ Nw w (.slice pe D.length ce) ev') ∧ At be w (w2.setCell ⟨be, 0, none⟩ (.slice pv2 (D.length + x.length) cv2)) := by
    have hne : ∀ g, (Value.slice pv2 (D.length + x.length) cv2).ownBlock = some g → g ≠ be := fun g e => by have := (hr2.lt g e).1; omega
    refine ⟨⟨.slice pv2 (D.length + x.length) cv2, ⟨?_, ?_, hB, by simp; omega⟩, fun g e => .inr (hr2.lt g e).1⟩, ?_⟩
    · rw [setCell_heap w2 be 0 _ 78 _ hk2]; rfl
    · have : RowU w2 w.heap.size (.slice pv2 (D.length + x.length) cv2) (D ++ x) := by simpa [RowU, en_append] using hr2
      exact own_mono (own_kept this fun g e _ => setCell_other _ _ _ _ _ (hne g e)) (by omega)
    · exact (atB be hb2).setCell be 0 rfl (.slice pv2 (D.length + x.length) cv2)
  have HF := hid hfin
  clear hfin hr1 hr2 hg2 hb1 hb2 hs1 hk2
  go_wp2
  go_ret
  exact ⟨rfl, HF.out⟩
theorem qpush_at (bq B : Nat) (qv : Value) (D x : List (Int × Int)) (v : Value) (w : World) (h : QV w B bq qv D) (hx : Ls eK 2 w v x) (hl : D.length + x.length ≤ 128) :
    Calls Tryz.prog 11 #[.pointer (some ⟨bq, 0, none⟩), v] w fun e w' => e = .returned (.int .i64 0) ∧ (∃ qv', QV w' B bq qv' (D ++ x) ∧ Nw w qv qv') ∧ At bq w w' := by
  obtain ⟨px, cx, rfl, _, _⟩ := hx.ex
  obtain ⟨pe, ce, rfl⟩ := ex_slice h.row
  have c0 := cell_of w bq 0 _ 80 _ h.blk rfl
  have hbe := lt_of h.blk
  have hB := h.hb
  have e1 : IntKind.i64.wrap ((D.length : Int) + (x.length : Int)) = (D.length : Int) + (x.length : Int) := i64_id _ (by omega) (by omega)
  have e2 : decide ((128 : Int) < (D.length : Int) + (x.length : Int)) = false := decide_eq_false (by omega)
  have hr0 := own_empty w 68 2
  have hb0 : Below w.heap.size w (w.alloc (.cells #[] 68)) := (Below.refl _ _).alloc (Nat.le_refl _) _
  have hs0 := (h.row.ls.below hb0).cs hK (by omega) oneK
  have c1 : (w.alloc (.cells #[] 68)).cell? ⟨bq, 0, none⟩ = some (.slice pe D.length ce) := (World.cell?_of_block (w := w) (Below.heap_alloc w _ bq hbe)).trans c0
  have HX := hid hx
  have HE := hid h
  clear hx h
  go_enter Tryz.func11, Tryz.ntmps11
  go_wp2_with (first | (at_builtin; refine wpList_append_row _ rfl _ _ 23 68 _ 2 16 Tryz.underlying23 info43 rfl (by decide) rfl w.heap.size _ 0 [] rfl hr0 _ D.length (en eK D) rfl hs0 (by unfold room; omega) (by unfold maxLen; omega) hb0.size ?_))
  intro v1 w1 hr1 hg1
  have hb1 : Below w.heap.size w w1 := hg1.belowAll (fun g e => (hr0.lt g e).1) hb0 (Nat.le_refl _)
  have hs1 := (HX.out.below hb1).cs hK (by omega) oneK
  replace hr1 : w1.ownsRow w.heap.size 68 2 v1 D.length (en eK D) := by simpa using hr1
  have HG1 := hid hg1
  clear hr0 hs0 hg1 hb0
  go_wp2_with (first | (at_builtin; refine wpList_append_row _ rfl _ _ 23 68 _ 2 16 Tryz.underlying23 info43 rfl (by decide) rfl w.heap.size _ D.length (en eK D) rfl hr1 _ x.length (en eK x) rfl hs1 (by unfold room; omega) (by unfold maxLen; omega) hb1.size ?_))
  intro v2 w2 hr2 hg2
  obtain ⟨pv2, cv2, rfl⟩ := ex_slice hr2
  have hb2 : Below w.heap.size w w2 := hg2.belowAll (fun g e => (hr1.lt g e).1) hb1 (Nat.le_refl _)
  have hk2 := (hb2.block bq hbe).trans HE.out.blk
  have c2 := cell_of w2 bq 0 _ 80 _ hk2 rfl
  have z2 := frozen_of w2 bq 0 _ 80 hk2
  have hfin : (∃ qv', QV (w2.setCell ⟨bq, 0, none⟩ (.slice pv2 (D.length + x.length) cv2)) B bq qv' (D ++ x) ∧ Nw w (.slice pe D.length ce) qv') ∧ At bq w (w2.setCell ⟨bq, 0, none⟩ (.slice pv2 (D.length + x.length) cv2)) := by
    have hne : ∀ g, (Value.slice pv2 (D.length + x.length) cv2).ownBlock = some g → g ≠ bq := fun g e => by have := (hr2.lt g e).1; omega
    refine ⟨⟨.slice pv2 (D.length + x.length) cv2, ⟨?_, ?_, hB, by simp; omega⟩, fun g e => .inr (hr2.lt g e).1⟩, ?_⟩
    · rw [setCell_heap w2 bq 0 _ 80 _ hk2]; rfl
    · have : RowK w2 w.heap.size (.slice pv2 (D.length + x.length) cv2) (D ++ x) := by simpa [RowK, en_append] using hr2
      exact own_mono (own_kept this fun g e _ => setCell_other _ _ _ _ _ (hne g e)) (by omega)
    · exact (atB bq hb2).setCell bq 0 rfl (.slice pv2 (D.length + x.length) cv2)
  have HF := hid hfin
  clear hfin hr1 hr2 hg2 hb1 hb2 hs1 hk2
  go_wp2
  go_ret
  exact ⟨rfl, HF.out⟩
theorem qpop_at (bq B : Nat) (qv : Value) (l : List (Int × Int)) (k v : Int) (w : World) (h : QV w B bq qv (l ++ [(k, v)])) : Calls Tryz.prog 87 #[.pointer (some ⟨bq, 0, none⟩), .int .i64 k] w fun e w' => e = .returned (.tuple #[.int .u16 v, .int .i64 0]) ∧ (∃ qv', QV w' B bq qv' l ∧ Nw w qv qv') ∧ At bq w w' := by
  have hlen : (l ++ [(k, v)]).length = l.length + 1 := by simp
  obtain ⟨g, cap, rfl, hg, hcap⟩ := rowK_pos h.row (by omega)
  have hl := h.len
  have hB := h.hb
  have ha := qat_in bq B _ _ l.length 0 (by simp) k v (by simp) k w h
  rw [if_pos rfl] at ha
  have hfin : ∀ w1, Below w.heap.size w w1 → (w1.cell? ⟨bq, 0, none⟩ = some (.slice (some ⟨g, 0, none⟩) (l.length + 1) cap) ∧ w1.frozen? ⟨bq, 0, none⟩ = false) ∧ (∃ qv', QV (w1.drew.setCell ⟨bq, 0, none⟩ (.slice (some ⟨g, 0, none⟩) l.length cap)) B bq qv' l ∧ Nw w (.slice (some ⟨g, 0, none⟩) (l ++ [(k, v)]).length cap) qv') ∧ At bq w (w1.drew.setCell ⟨bq, 0, none⟩ (.slice (some ⟨g, 0, none⟩) l.length cap)) := by
    intro w1 hb1
    have hq : w1.heap[bq]? = _ := (hb1.block bq (lt_of h.blk)).trans h.blk
    have hrw : RowK w1 B (.slice (some ⟨g, 0, none⟩) (l ++ [(k, v)]).length cap) (l ++ [(k, v)]) := own_kept h.row fun x _ hx => hb1.block x hx
    have hrow : RowK w1 B (.slice (some ⟨g, 0, none⟩) l.length cap) l := by
      have := own_cut hrw l.length (by omega)
      rw [show (en eK (l ++ [(k, v)])).take (l.length * 2) = en eK l by rw [en_append, List.take_left' (by rw [en_len hK])]] at this
      exact this
    have hne : g ≠ bq := own_ne h.row h.blk (by decide) g rfl
    refine ⟨⟨by have := cell_of w1 bq 0 _ 80 _ hq rfl; rwa [hlen] at this, frozen_of w1 bq 0 _ 80 hq⟩, ⟨.slice (some ⟨g, 0, none⟩) l.length cap, ⟨?_, ?_, hB, by omega⟩, fun _ e => .inl e⟩, ?_⟩
    · rw [setCell_heap w1.drew bq 0 _ 80 _ hq]; rfl
    · exact own_kept (W := w1) hrow fun x e _ => setCell_other w1.drew _ _ _ _ (by simp [Value.ownBlock] at e; subst e; exact hne)
    · exact ((atB bq hb1).drew).setCell bq 0 rfl _
  have e1 : IntKind.i64.wrap (((l.length + 1 : Nat) : Int) - 1) = (l.length : Int) := by rw [i64_id _ (by omega) (by omega)]; omega
  have e4 : l.length ≤ cap := by omega
  have HF := hid hfin
  clear hfin h
  go_enter Tryz.func87, Tryz.ntmps87
  go_wp2_with fail
  refine ha.mono ?_
  rintro e w1 ⟨rfl, hb⟩
  obtain ⟨⟨c1, z1⟩, f2⟩ := HF.out w1 hb
  have F2 := hid f2
  clear hb ha HF f2
  go_wp2_with fail
  go_region
  all_goals
    go_wp2
    go_ret2
    exact ⟨rfl, F2.out⟩
end Go.Proofs.YtgponcjjnjpfkabGreat.S
