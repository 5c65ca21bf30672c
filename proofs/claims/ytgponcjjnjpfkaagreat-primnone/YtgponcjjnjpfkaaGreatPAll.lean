import Derived.Test.YtgponcjjnjpfkaaGreatPTab
import Derived.Test.YtgponcjjnjpfkaaGreatPEntA
import Derived.Test.YtgponcjjnjpfkaaGreatPEntB
import Derived.Test.YtgponcjjnjpfkaaGreatPEntC
import Derived.Test.YtgponcjjnjpfkaaGreatPEntD
import Derived.RangeFuncNested
import Derived.RangeFuncBound
import Derived.RangeFuncCalls
import Derived.RangeFuncLeaves
import Derived.Shelf.Abstract
import Derived.Shelf.RegionOpen
import Derived.OwnWalkIn
import Derived.TacticsInMore
import Derived.LoopNIn
import Derived.LoopIn
/-! The rows by their number; All. -/
namespace Go.Proofs.YtgponcjjnjpfkaaGreat.P
open Go.RowKit Go.Shelf
open Go.Proofs
set_option linter.unusedVariables false
set_option linter.unusedSimpArgs false
set_option maxHeartbeats 2000000
set_option maxRecDepth 100000
attribute [local go_sem] Oper.semAt_some
def nm (x : Nat) : ByteArray := match x with
  | 9 => ⟨#[110, 111, 112]⟩
  | 10 => ⟨#[121, 105, 101, 108, 100]⟩
  | 11 => ⟨#[104, 97, 108, 116]⟩
  | 12 => ⟨#[100, 117, 112]⟩
  | 13 => ⟨#[100, 114, 111, 112]⟩
  | 14 => ⟨#[115, 119, 97, 112]⟩
  | 15 => ⟨#[111, 118, 101, 114]⟩
  | 16 => ⟨#[114, 111, 116]⟩
  | 17 => ⟨#[110, 105, 112]⟩
  | 18 => ⟨#[116, 117, 99, 107]⟩
  | 19 => ⟨#[50, 100, 117, 112]⟩
  | 20 => ⟨#[50, 100, 114, 111, 112]⟩
  | 21 => ⟨#[43]⟩
  | 22 => ⟨#[45]⟩
  | 23 => ⟨#[42]⟩
  | 24 => ⟨#[47]⟩
  | 25 => ⟨#[109, 111, 100]⟩
  | 26 => ⟨#[117, 47]⟩
  | 27 => ⟨#[117, 109, 111, 100]⟩
  | 28 => ⟨#[110, 101, 103, 97, 116, 101]⟩
  | 29 => ⟨#[97, 98, 115]⟩
  | 30 => ⟨#[109, 105, 110]⟩
  | 31 => ⟨#[109, 97, 120]⟩
  | 32 => ⟨#[49, 43]⟩
  | 33 => ⟨#[49, 45]⟩
  | 34 => ⟨#[50, 42]⟩
  | 35 => ⟨#[50, 47]⟩
  | 36 => ⟨#[97, 110, 100]⟩
  | 37 => ⟨#[111, 114]⟩
  | 38 => ⟨#[120, 111, 114]⟩
  | 39 => ⟨#[105, 110, 118, 101, 114, 116]⟩
  | 40 => ⟨#[108, 115, 104, 105, 102, 116]⟩
  | 41 => ⟨#[114, 115, 104, 105, 102, 116]⟩
  | 42 => ⟨#[61]⟩
  | 43 => ⟨#[60, 62]⟩
  | 44 => ⟨#[60]⟩
  | 45 => ⟨#[62]⟩
  | 46 => ⟨#[117, 60]⟩
  | 47 => ⟨#[117, 62]⟩
  | 48 => ⟨#[48, 61]⟩
  | 49 => ⟨#[48, 60]⟩
  | 50 => ⟨#[64]⟩
  | 51 => ⟨#[33]⟩
  | 52 => ⟨#[99, 64]⟩
  | 53 => ⟨#[99, 33]⟩
  | 54 => ⟨#[43, 33]⟩
  | 55 => ⟨#[62, 114]⟩
  | 56 => ⟨#[114, 62]⟩
  | 57 => ⟨#[114, 64]⟩
  | 58 => ⟨#[105]⟩
  | 59 => ⟨#[106]⟩
  | 60 => ⟨#[112, 108, 111, 116]⟩
  | 61 => ⟨#[112, 97, 100]⟩
  | 62 => ⟨#[116, 111, 110, 101]⟩
  | 63 => ⟨#[98, 97, 110, 107]⟩
  | _ => ⟨#[]⟩
def ri (x : Nat) : Int := match x with
  | 5 => 1
  | 6 => 2
  | 12 => 1
  | 13 => 1
  | 14 => 2
  | 15 => 2
  | 16 => 3
  | 17 => 2
  | 18 => 2
  | 19 => 2
  | 20 => 2
  | 21 => 2
  | 22 => 2
  | 23 => 2
  | 24 => 2
  | 25 => 2
  | 26 => 2
  | 27 => 2
  | 28 => 1
  | 29 => 1
  | 30 => 2
  | 31 => 2
  | 32 => 1
  | 33 => 1
  | 34 => 1
  | 35 => 1
  | 36 => 2
  | 37 => 2
  | 38 => 2
  | 39 => 1
  | 40 => 2
  | 41 => 2
  | 42 => 2
  | 43 => 2
  | 44 => 2
  | 45 => 2
  | 46 => 2
  | 47 => 2
  | 48 => 1
  | 49 => 1
  | 50 => 1
  | 51 => 2
  | 52 => 1
  | 53 => 2
  | 54 => 2
  | 55 => 1
  | 60 => 3
  | 62 => 2
  | 63 => 1
  | _ => 0
def ro (x : Nat) : Int := match x with
  | 2 => 1
  | 3 => 1
  | 12 => 2
  | 14 => 2
  | 15 => 3
  | 16 => 3
  | 17 => 1
  | 18 => 3
  | 19 => 4
  | 21 => 1
  | 22 => 1
  | 23 => 1
  | 24 => 1
  | 25 => 1
  | 26 => 1
  | 27 => 1
  | 28 => 1
  | 29 => 1
  | 30 => 1
  | 31 => 1
  | 32 => 1
  | 33 => 1
  | 34 => 1
  | 35 => 1
  | 36 => 1
  | 37 => 1
  | 38 => 1
  | 39 => 1
  | 40 => 1
  | 41 => 1
  | 42 => 1
  | 43 => 1
  | 44 => 1
  | 45 => 1
  | 46 => 1
  | 47 => 1
  | 48 => 1
  | 49 => 1
  | 50 => 1
  | 52 => 1
  | 56 => 1
  | 57 => 1
  | 58 => 1
  | 59 => 1
  | 61 => 1
  | _ => 0
def rc (x : Nat) : Int := match x with
  | 1 => 2
  | 2 => 2
  | 3 => 2
  | 4 => 2
  | 5 => 2
  | 6 => 3
  | 7 => 3
  | 8 => 2
  | 19 => 2
  | 23 => 3
  | 24 => 4
  | 25 => 4
  | 26 => 4
  | 27 => 4
  | 50 => 2
  | 51 => 2
  | 52 => 2
  | 53 => 2
  | 54 => 3
  | 60 => 3
  | 62 => 2
  | _ => 1
def rb (x : Nat) : Bool := match x with
  | 3 => true
  | 4 => true
  | 5 => true
  | 7 => true
  | _ => false
def rowN (x : Nat) : Value := rowV (x : Int) (nm x) (ri x) (ro x) (rc x) (rb x)
theorem num_cases (x : Nat) (h1 : 1 ≤ x) (h2 : x < 64) : x = 1 ∨ x = 2 ∨ x = 3 ∨ x = 4 ∨ x = 5 ∨ x = 6 ∨ x = 7 ∨ x = 8 ∨ x = 9 ∨ x = 10 ∨ x = 11 ∨ x = 12 ∨ x = 13 ∨ x = 14 ∨ x = 15 ∨ x = 16 ∨ x = 17 ∨ x = 18 ∨ x = 19 ∨ x = 20 ∨ x = 21 ∨ x = 22 ∨ x = 23 ∨ x = 24 ∨ x = 25 ∨ x = 26 ∨ x = 27 ∨ x = 28 ∨ x = 29 ∨ x = 30 ∨ x = 31 ∨ x = 32 ∨ x = 33 ∨ x = 34 ∨ x = 35 ∨ x = 36 ∨ x = 37 ∨ x = 38 ∨ x = 39 ∨ x = 40 ∨ x = 41 ∨ x = 42 ∨ x = 43 ∨ x = 44 ∨ x = 45 ∨ x = 46 ∨ x = 47 ∨ x = 48 ∨ x = 49 ∨ x = 50 ∨ x = 51 ∨ x = 52 ∨ x = 53 ∨ x = 54 ∨ x = 55 ∨ x = 56 ∨ x = 57 ∨ x = 58 ∨ x = 59 ∨ x = 60 ∨ x = 61 ∨ x = 62 ∨ x = 63 := by omega
theorem ent_at (x : Nat) (h1 : 1 ≤ x) (h2 : x < 64) : ∃ (k bl s : Int) (f : Value), f.oneCell' = true ∧ (f = .nilFunc ∨ ∃ g, f = .func (.func g) #[] #[]) ∧ ∀ w, Calls Tryz.prog 45 #[.int .i64 (x : Int)] w fun e w' => e = .returned (entV (x : Int) (nm x) (ri x) (ro x) (rc x) (rb x) k bl s f) ∧ Below w.heap.size w w' := by
  rcases num_cases x h1 h2 with rfl | rfl | rfl | rfl | rfl | rfl | rfl | rfl | rfl | rfl | rfl | rfl | rfl | rfl | rfl | rfl | rfl | rfl | rfl | rfl | rfl | rfl | rfl | rfl | rfl | rfl | rfl | rfl | rfl | rfl | rfl | rfl | rfl | rfl | rfl | rfl | rfl | rfl | rfl | rfl | rfl | rfl | rfl | rfl | rfl | rfl | rfl | rfl | rfl | rfl | rfl | rfl | rfl | rfl | rfl | rfl | rfl | rfl | rfl | rfl | rfl | rfl | rfl
  · exact ⟨_, _, _, _, rfl, .inl rfl, ent_1⟩
  · exact ⟨_, _, _, _, rfl, .inl rfl, ent_2⟩
  · exact ⟨_, _, _, _, rfl, .inl rfl, ent_3⟩
  · exact ⟨_, _, _, _, rfl, .inl rfl, ent_4⟩
  · exact ⟨_, _, _, _, rfl, .inl rfl, ent_5⟩
  · exact ⟨_, _, _, _, rfl, .inr ⟨_, rfl⟩, ent_6⟩
  · exact ⟨_, _, _, _, rfl, .inl rfl, ent_7⟩
  · exact ⟨_, _, _, _, rfl, .inl rfl, ent_8⟩
  · exact ⟨_, _, _, _, rfl, .inr ⟨_, rfl⟩, ent_9⟩
  · exact ⟨_, _, _, _, rfl, .inl rfl, ent_10⟩
  · exact ⟨_, _, _, _, rfl, .inl rfl, ent_11⟩
  · exact ⟨_, _, _, _, rfl, .inr ⟨_, rfl⟩, ent_12⟩
  · exact ⟨_, _, _, _, rfl, .inr ⟨_, rfl⟩, ent_13⟩
  · exact ⟨_, _, _, _, rfl, .inr ⟨_, rfl⟩, ent_14⟩
  · exact ⟨_, _, _, _, rfl, .inr ⟨_, rfl⟩, ent_15⟩
  · exact ⟨_, _, _, _, rfl, .inr ⟨_, rfl⟩, ent_16⟩
  · exact ⟨_, _, _, _, rfl, .inr ⟨_, rfl⟩, ent_17⟩
  · exact ⟨_, _, _, _, rfl, .inr ⟨_, rfl⟩, ent_18⟩
  · exact ⟨_, _, _, _, rfl, .inr ⟨_, rfl⟩, ent_19⟩
  · exact ⟨_, _, _, _, rfl, .inr ⟨_, rfl⟩, ent_20⟩
  · exact ⟨_, _, _, _, rfl, .inr ⟨_, rfl⟩, ent_21⟩
  · exact ⟨_, _, _, _, rfl, .inr ⟨_, rfl⟩, ent_22⟩
  · exact ⟨_, _, _, _, rfl, .inr ⟨_, rfl⟩, ent_23⟩
  · exact ⟨_, _, _, _, rfl, .inr ⟨_, rfl⟩, ent_24⟩
  · exact ⟨_, _, _, _, rfl, .inr ⟨_, rfl⟩, ent_25⟩
  · exact ⟨_, _, _, _, rfl, .inr ⟨_, rfl⟩, ent_26⟩
  · exact ⟨_, _, _, _, rfl, .inr ⟨_, rfl⟩, ent_27⟩
  · exact ⟨_, _, _, _, rfl, .inr ⟨_, rfl⟩, ent_28⟩
  · exact ⟨_, _, _, _, rfl, .inr ⟨_, rfl⟩, ent_29⟩
  · exact ⟨_, _, _, _, rfl, .inr ⟨_, rfl⟩, ent_30⟩
  · exact ⟨_, _, _, _, rfl, .inr ⟨_, rfl⟩, ent_31⟩
  · exact ⟨_, _, _, _, rfl, .inr ⟨_, rfl⟩, ent_32⟩
  · exact ⟨_, _, _, _, rfl, .inr ⟨_, rfl⟩, ent_33⟩
  · exact ⟨_, _, _, _, rfl, .inr ⟨_, rfl⟩, ent_34⟩
  · exact ⟨_, _, _, _, rfl, .inr ⟨_, rfl⟩, ent_35⟩
  · exact ⟨_, _, _, _, rfl, .inr ⟨_, rfl⟩, ent_36⟩
  · exact ⟨_, _, _, _, rfl, .inr ⟨_, rfl⟩, ent_37⟩
  · exact ⟨_, _, _, _, rfl, .inr ⟨_, rfl⟩, ent_38⟩
  · exact ⟨_, _, _, _, rfl, .inr ⟨_, rfl⟩, ent_39⟩
  · exact ⟨_, _, _, _, rfl, .inr ⟨_, rfl⟩, ent_40⟩
  · exact ⟨_, _, _, _, rfl, .inr ⟨_, rfl⟩, ent_41⟩
  · exact ⟨_, _, _, _, rfl, .inr ⟨_, rfl⟩, ent_42⟩
  · exact ⟨_, _, _, _, rfl, .inr ⟨_, rfl⟩, ent_43⟩
  · exact ⟨_, _, _, _, rfl, .inr ⟨_, rfl⟩, ent_44⟩
  · exact ⟨_, _, _, _, rfl, .inr ⟨_, rfl⟩, ent_45⟩
  · exact ⟨_, _, _, _, rfl, .inr ⟨_, rfl⟩, ent_46⟩
  · exact ⟨_, _, _, _, rfl, .inr ⟨_, rfl⟩, ent_47⟩
  · exact ⟨_, _, _, _, rfl, .inr ⟨_, rfl⟩, ent_48⟩
  · exact ⟨_, _, _, _, rfl, .inr ⟨_, rfl⟩, ent_49⟩
  · exact ⟨_, _, _, _, rfl, .inr ⟨_, rfl⟩, ent_50⟩
  · exact ⟨_, _, _, _, rfl, .inr ⟨_, rfl⟩, ent_51⟩
  · exact ⟨_, _, _, _, rfl, .inr ⟨_, rfl⟩, ent_52⟩
  · exact ⟨_, _, _, _, rfl, .inr ⟨_, rfl⟩, ent_53⟩
  · exact ⟨_, _, _, _, rfl, .inr ⟨_, rfl⟩, ent_54⟩
  · exact ⟨_, _, _, _, rfl, .inr ⟨_, rfl⟩, ent_55⟩
  · exact ⟨_, _, _, _, rfl, .inr ⟨_, rfl⟩, ent_56⟩
  · exact ⟨_, _, _, _, rfl, .inr ⟨_, rfl⟩, ent_57⟩
  · exact ⟨_, _, _, _, rfl, .inr ⟨_, rfl⟩, ent_58⟩
  · exact ⟨_, _, _, _, rfl, .inr ⟨_, rfl⟩, ent_59⟩
  · exact ⟨_, _, _, _, rfl, .inr ⟨_, rfl⟩, ent_60⟩
  · exact ⟨_, _, _, _, rfl, .inr ⟨_, rfl⟩, ent_61⟩
  · exact ⟨_, _, _, _, rfl, .inr ⟨_, rfl⟩, ent_62⟩
  · exact ⟨_, _, _, _, rfl, .inr ⟨_, rfl⟩, ent_63⟩
theorem of_at (x : Nat) (h1 : 1 ≤ x) (h2 : x < 64) (w : World) : Calls Tryz.prog 26 #[.int .i64 (x : Int)] w fun e w' => e = .returned (.tuple #[rowN x, .int .i64 0]) ∧ Below w.heap.size w w' := by
  obtain ⟨k, bl, s, f, _, _, hE⟩ := ent_at x h1 h2
  exact of_yes _ _ _ _ _ _ _ _ _ _ (by omega) (by omega) hE w
def allN : List Nat := List.range' 1 63
theorem grown_of {W W' : World} (b : Below W.heap.size W W') : W.grownBy W' none := ⟨b.os, b.tape, b.output, b.size, fun k hk _ => b.block k hk⟩
theorem range_snoc (k : Nat) : List.range' 1 k ++ [1 + k] = List.range' 1 (k + 1) := by rw [List.range'_1_concat]
theorem range_pre (k : Nat) (h : k ≤ 63) : List.range' 1 k <+: allN := by
  refine ⟨List.range' (1 + k) (63 - k), ?_⟩
  rw [allN, List.range'_append_1, show k + (63 - k) = 63 by omega]
theorem all_stops (n n₀ : Nat) (hn : 1 ≤ n) (w : World) :
    SeqStopsK Fence.wide n Tryz.prog 54 #[] (fun x : Nat => #[rowV (x : Int) (nm x) (ri x) (ro x) (rc x) (rb x)]) (Below n₀) (fun xs => xs = allN) (fun pre => pre <+: allN) 63 w := fun l J Jx W hW hJ hJx hY h0 => by
  refine callsIn_of_wp Tryz.func54 rfl trivial ?_ rfl
  simp only [Tryz.ntmps54, List.size_toArray, List.length_cons, List.length_nil, Nat.reduceAdd, Nat.reduceSub, Array.replicate_succ, Array.replicate_zero, List.push_toArray, List.append_toArray, List.nil_append, List.cons_append]
  have hfd := field0
  unfold rowV at hfd
  gi_wp2
  gi_loopw [2] (fun i wr => ∃ k : Nat, k ≤ 63 ∧ i = .int .i64 ((1 + k : Nat) : Int) ∧ J (List.range' 1 k) wr) (fun i _ => 64 - (intOf i).toNat)
  case atStart => exact ⟨0, by omega, rfl, h0⟩
  case round =>
    obtain ⟨k, hk, rfl, hJs⟩ := hrel
    by_cases hlt : k < 63
    · obtain ⟨kk, bl, s, f, hf, _, hE⟩ := ent_at (1 + k) (by omega) (by omega)
      have hYk : ∀ W1, J (List.range' 1 k) W1 → _ := fun W1 h => hY (List.range' 1 k) (1 + k) W1 h (by simp; omega)
      have hpre := range_pre (k + 1) (by omega)
      rw [← range_snoc] at hpre
      have hi0 : ((1 + k : Nat) : Int) < 64 := by omega
      have hn1 : IntKind.i64.wrap (((1 + k : Nat) : Int) + 1) = ((1 + (k + 1) : Nat) : Int) := by rw [S.i64_id _ (by omega) (by omega)]; omega
      have hms : (64 - (((1 + (k + 1) : Nat) : Int)).toNat) < 64 - (((1 + k : Nat) : Int)).toNat := by omega
      generalize hz : ((1 + k : Nat) : Int) = z at *
      generalize hz2 : ((1 + (k + 1) : Nat) : Int) = z2 at *

      generalize nm (1 + k) = a1 at *
      generalize ri (1 + k) = a2 at *
      generalize ro (1 + k) = a3 at *
      generalize rc (1 + k) = a4 at *
      generalize rb (1 + k) = a5 at *
      have HZ := S.hid (And.intro hz hz2)
      have HM := S.hid hms
      clear hz hz2 hms
      gi_wp2_with (refine ⟨trivial, ?_⟩; gi_at_call 45; refine (callsIn_wide.2 (hE _)).mono ?_; rintro e w1 ⟨rfl, hB⟩; unfold entV; obtain ⟨fn, tmps, assign, body, hy, hR⟩ := hYk w1 (hJ _ _ _ none hJs (grown_of hB) (fun r e => by cases e)); unfold rowV at hy)
      refine hR.mono ?_
      rintro e W3 (⟨rfl, hJ3, hk3⟩ | ⟨rfl, hJx3⟩)
      · gi_wp2
        rw [range_snoc] at hJ3
        refine ⟨⟨k + 1, by omega, by rw [HZ.out.2], hJ3⟩, ?_⟩
        have := HM.out
        simpa [intOf] using this
      · gi_wp2
        refine bodyPost_ret (results_none rfl _ _ _) rfl ?_
        exact ⟨⟨_, rfl⟩, .inr ⟨_, hpre, hJx3⟩⟩
    · obtain rfl : k = 63 := by omega
      gi_wp2
      go_end0
      exact ⟨⟨_, rfl⟩, .inl ⟨_, rfl, hJs⟩⟩
end Go.Proofs.YtgponcjjnjpfkaaGreat.P
