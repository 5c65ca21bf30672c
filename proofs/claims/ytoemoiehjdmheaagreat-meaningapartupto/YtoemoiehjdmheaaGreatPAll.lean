import Derived.Test.YtoemoiehjdmheaaGreatPTab
import Derived.Test.YtoemoiehjdmheaaGreatPRow
import Derived.RangeFuncNested
import Derived.RangeFuncBound
import Derived.RangeFuncCalls
import Derived.RangeFuncLeaves
import Derived.Shelf.Abstract
import Derived.Shelf.RegionOpen
import Derived.OwnWalkIn
import Derived.TacticsInMore
import Derived.LoopNIn
import Derived.LoopIn
namespace Go.Proofs.YtoemoiehjdmheaaGreat.P
open Go.RowKit Go.Shelf
open Go.Proofs
set_option linter.unusedVariables false
set_option linter.unusedSimpArgs false
set_option maxHeartbeats 2000000
set_option maxRecDepth 100000
attribute [local go_sem] Oper.semAt_some
def nm (x : Nat) : ByteArray := match x with
 | 9 => ⟨#[110, 111, 112]⟩
 | 10 => ⟨#[121, 105, 101, 108, 100]⟩
 | 11 => ⟨#[104, 97, 108, 116]⟩
 | 12 => ⟨#[100, 117, 112]⟩
 | 13 => ⟨#[100, 114, 111, 112]⟩
 | 14 => ⟨#[115, 119, 97, 112]⟩
 | 15 => ⟨#[111, 118, 101, 114]⟩
 | 16 => ⟨#[114, 111, 116]⟩
 | 17 => ⟨#[110, 105, 112]⟩
 | 18 => ⟨#[116, 117, 99, 107]⟩
 | 19 => ⟨#[50, 100, 117, 112]⟩
 | 20 => ⟨#[50, 100, 114, 111, 112]⟩
 | 21 => ⟨#[43]⟩
 | 22 => ⟨#[45]⟩
 | 23 => ⟨#[42]⟩
 | 24 => ⟨#[47]⟩
 | 25 => ⟨#[109, 111, 100]⟩
 | 26 => ⟨#[117, 47]⟩
 | 27 => ⟨#[117, 109, 111, 100]⟩
 | 28 => ⟨#[110, 101, 103, 97, 116, 101]⟩
 | 29 => ⟨#[97, 98, 115]⟩
 | 30 => ⟨#[109, 105, 110]⟩
 | 31 => ⟨#[109, 97, 120]⟩
 | 32 => ⟨#[49, 43]⟩
 | 33 => ⟨#[49, 45]⟩
 | 34 => ⟨#[50, 42]⟩
 | 35 => ⟨#[50, 47]⟩
 | 36 => ⟨#[97, 110, 100]⟩
 | 37 => ⟨#[111, 114]⟩
 | 38 => ⟨#[120, 111, 114]⟩
 | 39 => ⟨#[105, 110, 118, 101, 114, 116]⟩
 | 40 => ⟨#[108, 115, 104, 105, 102, 116]⟩
 | 41 => ⟨#[114, 115, 104, 105, 102, 116]⟩
 | 42 => ⟨#[61]⟩
 | 43 => ⟨#[60, 62]⟩
 | 44 => ⟨#[60]⟩
 | 45 => ⟨#[62]⟩
 | 46 => ⟨#[117, 60]⟩
 | 47 => ⟨#[117, 62]⟩
 | 48 => ⟨#[48, 61]⟩
 | 49 => ⟨#[48, 60]⟩
 | 50 => ⟨#[64]⟩
 | 51 => ⟨#[33]⟩
 | 52 => ⟨#[99, 64]⟩
 | 53 => ⟨#[99, 33]⟩
 | 54 => ⟨#[43, 33]⟩
 | 55 => ⟨#[62, 114]⟩
 | 56 => ⟨#[114, 62]⟩
 | 57 => ⟨#[114, 64]⟩
 | 58 => ⟨#[105]⟩
 | 59 => ⟨#[106]⟩
 | 60 => ⟨#[112, 108, 111, 116]⟩
 | 61 => ⟨#[112, 97, 100]⟩
 | 62 => ⟨#[116, 111, 110, 101]⟩
 | 63 => ⟨#[98, 97, 110, 107]⟩
 | _ => ⟨#[]⟩
def ri (x : Nat) : Int := match x with
 | 5 => 1
 | 6 => 2
 | 12 => 1
 | 13 => 1
 | 14 => 2
 | 15 => 2
 | 16 => 3
 | 17 => 2
 | 18 => 2
 | 19 => 2
 | 20 => 2
 | 21 => 2
 | 22 => 2
 | 23 => 2
 | 24 => 2
 | 25 => 2
 | 26 => 2
 | 27 => 2
 | 28 => 1
 | 29 => 1
 | 30 => 2
 | 31 => 2
 | 32 => 1
 | 33 => 1
 | 34 => 1
 | 35 => 1
 | 36 => 2
 | 37 => 2
 | 38 => 2
 | 39 => 1
 | 40 => 2
 | 41 => 2
 | 42 => 2
 | 43 => 2
 | 44 => 2
 | 45 => 2
 | 46 => 2
 | 47 => 2
 | 48 => 1
 | 49 => 1
 | 50 => 1
 | 51 => 2
 | 52 => 1
 | 53 => 2
 | 54 => 2
 | 55 => 1
 | 60 => 3
 | 62 => 2
 | 63 => 1
 | _ => 0
def ro (x : Nat) : Int := match x with
 | 2 => 1
 | 3 => 1
 | 12 => 2
 | 14 => 2
 | 15 => 3
 | 16 => 3
 | 17 => 1
 | 18 => 3
 | 19 => 4
 | 21 => 1
 | 22 => 1
 | 23 => 1
 | 24 => 1
 | 25 => 1
 | 26 => 1
 | 27 => 1
 | 28 => 1
 | 29 => 1
 | 30 => 1
 | 31 => 1
 | 32 => 1
 | 33 => 1
 | 34 => 1
 | 35 => 1
 | 36 => 1
 | 37 => 1
 | 38 => 1
 | 39 => 1
 | 40 => 1
 | 41 => 1
 | 42 => 1
 | 43 => 1
 | 44 => 1
 | 45 => 1
 | 46 => 1
 | 47 => 1
 | 48 => 1
 | 49 => 1
 | 50 => 1
 | 52 => 1
 | 56 => 1
 | 57 => 1
 | 58 => 1
 | 59 => 1
 | 61 => 1
 | _ => 0
def rc (x : Nat) : Int := match x with
 | 1 => 2
 | 2 => 2
 | 3 => 2
 | 4 => 2
 | 5 => 2
 | 6 => 3
 | 7 => 3
 | 8 => 2
 | 19 => 2
 | 23 => 3
 | 24 => 4
 | 25 => 4
 | 26 => 4
 | 27 => 4
 | 50 => 2
 | 51 => 2
 | 52 => 2
 | 53 => 2
 | 54 => 3
 | 60 => 3
 | 62 => 2
 | _ => 1
def rb (x : Nat) : Bool := match x with
 | 3 => true
 | 4 => true
 | 5 => true
 | 7 => true
 | _ => false
def rowN (x : Nat) : Value := rowV (x : Int) (nm x) (ri x) (ro x) (rc x) (rb x)
theorem num_cases (x : Nat) (h1 : 1 <= x) (h2 : x < 64) : x = 1 \/ x = 2 \/ x = 3 \/ x = 4 \/ x = 5 \/ x = 6 \/ x = 7 \/ x = 8 \/ x = 9 \/ x = 10 \/ x = 11 \/ x = 12 \/ x = 13 \/ x = 14 \/ x = 15 \/ x = 16 \/ x = 17 \/ x = 18 \/ x = 19 \/ x = 20 \/ x = 21 \/ x = 22 \/ x = 23 \/ x = 24 \/ x = 25 \/ x = 26 \/ x = 27 \/ x = 28 \/ x = 29 \/ x = 30 \/ x = 31 \/ x = 32 \/ x = 33 \/ x = 34 \/ x = 35 \/ x = 36 \/ x = 37 \/ x = 38 \/ x = 39 \/ x = 40 \/ x = 41 \/ x = 42 \/ x = 43 \/ x = 44 \/ x = 45 \/ x = 46 \/ x = 47 \/ x = 48 \/ x = 49 \/ x = 50 \/ x = 51 \/ x = 52 \/ x = 53 \/ x = 54 \/ x = 55 \/ x = 56 \/ x = 57 \/ x = 58 \/ x = 59 \/ x = 60 \/ x = 61 \/ x = 62 \/ x = 63 := by omega
theorem ent_at (x : Nat) (h1 : 1 <= x) (h2 : x < 64) : ∃ (k bl s : Int) (f : Value), f.oneCell' = true /\ (f = .nilFunc \/ ∃ g, f = .func (.func g) #[] #[]) /\ ∀ w, Calls Tryz.prog 58 #[.int .i64 (x : Int)] w fun e w' => e = .returned (entV (x : Int) (nm x) (ri x) (ro x) (rc x) (rb x) k bl s f) /\ Below w.heap.size w w' := by
 rcases num_cases x h1 h2 with rfl | rfl | rfl | rfl | rfl | rfl | rfl | rfl | rfl | rfl | rfl | rfl | rfl | rfl | rfl | rfl | rfl | rfl | rfl | rfl | rfl | rfl | rfl | rfl | rfl | rfl | rfl | rfl | rfl | rfl | rfl | rfl | rfl | rfl | rfl | rfl | rfl | rfl | rfl | rfl | rfl | rfl | rfl | rfl | rfl | rfl | rfl | rfl | rfl | rfl | rfl | rfl | rfl | rfl | rfl | rfl | rfl | rfl | rfl | rfl | rfl | rfl | rfl
 ·exact ⟨_, _, _, _, rfl, .inl rfl, (fun w => (entA w).1)⟩
 ·exact ⟨_, _, _, _, rfl, .inl rfl, (fun w => (entA w).2.1)⟩
 ·exact ⟨_, _, _, _, rfl, .inl rfl, (fun w => (entA w).2.2.1)⟩
 ·exact ⟨_, _, _, _, rfl, .inl rfl, (fun w => (entA w).2.2.2.1)⟩
 ·exact ⟨_, _, _, _, rfl, .inl rfl, (fun w => (entA w).2.2.2.2.1)⟩
 ·exact ⟨_, _, _, _, rfl, .inr ⟨_, rfl⟩, (fun w => (entA w).2.2.2.2.2.1)⟩
 ·exact ⟨_, _, _, _, rfl, .inl rfl, (fun w => (entA w).2.2.2.2.2.2.1)⟩
 ·exact ⟨_, _, _, _, rfl, .inl rfl, (fun w => (entA w).2.2.2.2.2.2.2.1)⟩
 ·exact ⟨_, _, _, _, rfl, .inr ⟨_, rfl⟩, (fun w => (entA w).2.2.2.2.2.2.2.2.1)⟩
 ·exact ⟨_, _, _, _, rfl, .inl rfl, (fun w => (entA w).2.2.2.2.2.2.2.2.2.1)⟩
 ·exact ⟨_, _, _, _, rfl, .inl rfl, (fun w => (entA w).2.2.2.2.2.2.2.2.2.2.1)⟩
 ·exact ⟨_, _, _, _, rfl, .inr ⟨_, rfl⟩, (fun w => (entA w).2.2.2.2.2.2.2.2.2.2.2.1)⟩
 ·exact ⟨_, _, _, _, rfl, .inr ⟨_, rfl⟩, (fun w => (entA w).2.2.2.2.2.2.2.2.2.2.2.2.1)⟩
 ·exact ⟨_, _, _, _, rfl, .inr ⟨_, rfl⟩, (fun w => (entA w).2.2.2.2.2.2.2.2.2.2.2.2.2.1)⟩
 ·exact ⟨_, _, _, _, rfl, .inr ⟨_, rfl⟩, (fun w => (entA w).2.2.2.2.2.2.2.2.2.2.2.2.2.2.1)⟩
 ·exact ⟨_, _, _, _, rfl, .inr ⟨_, rfl⟩, (fun w => (entA w).2.2.2.2.2.2.2.2.2.2.2.2.2.2.2)⟩
 ·exact ⟨_, _, _, _, rfl, .inr ⟨_, rfl⟩, (fun w => (entB w).1)⟩
 ·exact ⟨_, _, _, _, rfl, .inr ⟨_, rfl⟩, (fun w => (entB w).2.1)⟩
 ·exact ⟨_, _, _, _, rfl, .inr ⟨_, rfl⟩, (fun w => (entB w).2.2.1)⟩
 ·exact ⟨_, _, _, _, rfl, .inr ⟨_, rfl⟩, (fun w => (entB w).2.2.2.1)⟩
 ·exact ⟨_, _, _, _, rfl, .inr ⟨_, rfl⟩, (fun w => (entB w).2.2.2.2.1)⟩
 ·exact ⟨_, _, _, _, rfl, .inr ⟨_, rfl⟩, (fun w => (entB w).2.2.2.2.2.1)⟩
 ·exact ⟨_, _, _, _, rfl, .inr ⟨_, rfl⟩, (fun w => (entB w).2.2.2.2.2.2.1)⟩
 ·exact ⟨_, _, _, _, rfl, .inr ⟨_, rfl⟩, (fun w => (entB w).2.2.2.2.2.2.2.1)⟩
 ·exact ⟨_, _, _, _, rfl, .inr ⟨_, rfl⟩, (fun w => (entB w).2.2.2.2.2.2.2.2.1)⟩
 ·exact ⟨_, _, _, _, rfl, .inr ⟨_, rfl⟩, (fun w => (entB w).2.2.2.2.2.2.2.2.2.1)⟩
 ·exact ⟨_, _, _, _, rfl, .inr ⟨_, rfl⟩, (fun w => (entB w).2.2.2.2.2.2.2.2.2.2.1)⟩
 ·exact ⟨_, _, _, _, rfl, .inr ⟨_, rfl⟩, (fun w => (entB w).2.2.2.2.2.2.2.2.2.2.2.1)⟩
 ·exact ⟨_, _, _, _, rfl, .inr ⟨_, rfl⟩, (fun w => (entB w).2.2.2.2.2.2.2.2.2.2.2.2.1)⟩
 ·exact ⟨_, _, _, _, rfl, .inr ⟨_, rfl⟩, (fun w => (entB w).2.2.2.2.2.2.2.2.2.2.2.2.2.1)⟩
 ·exact ⟨_, _, _, _, rfl, .inr ⟨_, rfl⟩, (fun w => (entB w).2.2.2.2.2.2.2.2.2.2.2.2.2.2.1)⟩
 ·exact ⟨_, _, _, _, rfl, .inr ⟨_, rfl⟩, (fun w => (entB w).2.2.2.2.2.2.2.2.2.2.2.2.2.2.2)⟩
 ·exact ⟨_, _, _, _, rfl, .inr ⟨_, rfl⟩, (fun w => (entC w).1)⟩
 ·exact ⟨_, _, _, _, rfl, .inr ⟨_, rfl⟩, (fun w => (entC w).2.1)⟩
 ·exact ⟨_, _, _, _, rfl, .inr ⟨_, rfl⟩, (fun w => (entC w).2.2.1)⟩
 ·exact ⟨_, _, _, _, rfl, .inr ⟨_, rfl⟩, (fun w => (entC w).2.2.2.1)⟩
 ·exact ⟨_, _, _, _, rfl, .inr ⟨_, rfl⟩, (fun w => (entC w).2.2.2.2.1)⟩
 ·exact ⟨_, _, _, _, rfl, .inr ⟨_, rfl⟩, (fun w => (entC w).2.2.2.2.2.1)⟩
 ·exact ⟨_, _, _, _, rfl, .inr ⟨_, rfl⟩, (fun w => (entC w).2.2.2.2.2.2.1)⟩
 ·exact ⟨_, _, _, _, rfl, .inr ⟨_, rfl⟩, (fun w => (entC w).2.2.2.2.2.2.2.1)⟩
 ·exact ⟨_, _, _, _, rfl, .inr ⟨_, rfl⟩, (fun w => (entC w).2.2.2.2.2.2.2.2.1)⟩
 ·exact ⟨_, _, _, _, rfl, .inr ⟨_, rfl⟩, (fun w => (entC w).2.2.2.2.2.2.2.2.2.1)⟩
 ·exact ⟨_, _, _, _, rfl, .inr ⟨_, rfl⟩, (fun w => (entC w).2.2.2.2.2.2.2.2.2.2.1)⟩
 ·exact ⟨_, _, _, _, rfl, .inr ⟨_, rfl⟩, (fun w => (entC w).2.2.2.2.2.2.2.2.2.2.2.1)⟩
 ·exact ⟨_, _, _, _, rfl, .inr ⟨_, rfl⟩, (fun w => (entC w).2.2.2.2.2.2.2.2.2.2.2.2.1)⟩
 ·exact ⟨_, _, _, _, rfl, .inr ⟨_, rfl⟩, (fun w => (entC w).2.2.2.2.2.2.2.2.2.2.2.2.2.1)⟩
 ·exact ⟨_, _, _, _, rfl, .inr ⟨_, rfl⟩, (fun w => (entC w).2.2.2.2.2.2.2.2.2.2.2.2.2.2.1)⟩
 ·exact ⟨_, _, _, _, rfl, .inr ⟨_, rfl⟩, (fun w => (entC w).2.2.2.2.2.2.2.2.2.2.2.2.2.2.2)⟩
 ·exact ⟨_, _, _, _, rfl, .inr ⟨_, rfl⟩, (fun w => (entD w).1)⟩
 ·exact ⟨_, _, _, _, rfl, .inr ⟨_, rfl⟩, (fun w => (entD w).2.1)⟩
 ·exact ⟨_, _, _, _, rfl, .inr ⟨_, rfl⟩, (fun w => (entD w).2.2.1)⟩
 ·exact ⟨_, _, _, _, rfl, .inr ⟨_, rfl⟩, (fun w => (entD w).2.2.2.1)⟩
 ·exact ⟨_, _, _, _, rfl, .inr ⟨_, rfl⟩, (fun w => (entD w).2.2.2.2.1)⟩
 ·exact ⟨_, _, _, _, rfl, .inr ⟨_, rfl⟩, (fun w => (entD w).2.2.2.2.2.1)⟩
 ·exact ⟨_, _, _, _, rfl, .inr ⟨_, rfl⟩, (fun w => (entD w).2.2.2.2.2.2.1)⟩
 ·exact ⟨_, _, _, _, rfl, .inr ⟨_, rfl⟩, (fun w => (entD w).2.2.2.2.2.2.2.1)⟩
 ·exact ⟨_, _, _, _, rfl, .inr ⟨_, rfl⟩, (fun w => (entD w).2.2.2.2.2.2.2.2.1)⟩
 ·exact ⟨_, _, _, _, rfl, .inr ⟨_, rfl⟩, (fun w => (entD w).2.2.2.2.2.2.2.2.2.1)⟩
 ·exact ⟨_, _, _, _, rfl, .inr ⟨_, rfl⟩, (fun w => (entD w).2.2.2.2.2.2.2.2.2.2.1)⟩
 ·exact ⟨_, _, _, _, rfl, .inr ⟨_, rfl⟩, (fun w => (entD w).2.2.2.2.2.2.2.2.2.2.2.1)⟩
 ·exact ⟨_, _, _, _, rfl, .inr ⟨_, rfl⟩, (fun w => (entD w).2.2.2.2.2.2.2.2.2.2.2.2.1)⟩
 ·exact ⟨_, _, _, _, rfl, .inr ⟨_, rfl⟩, (fun w => (entD w).2.2.2.2.2.2.2.2.2.2.2.2.2.1)⟩
 ·exact ⟨_, _, _, _, rfl, .inr ⟨_, rfl⟩, (fun w => (entD w).2.2.2.2.2.2.2.2.2.2.2.2.2.2)⟩
theorem of_at (x : Nat) (h1 : 1 <= x) (h2 : x < 64) (w : World) : Calls Tryz.prog 42 #[.int .i64 (x : Int)] w fun e w' => e = .returned (.tuple #[rowN x, .int .i64 0]) /\ Below w.heap.size w w' := by
 obtain ⟨k, bl, s, f, _, _, hE⟩ := ent_at x h1 h2
 exact of_yes _ _ _ _ _ _ _ _ _ _ (by omega) (by omega) hE w
def allN : List Nat := List.range' 1 63
theorem grown_of {W W' : World} (b : Below W.heap.size W W') : W.grownBy W' none := ⟨b.os, b.tape, b.output, b.size, fun k hk _ => b.block k hk⟩
theorem range_snoc (k : Nat) : List.range' 1 k ++ [1 + k] = List.range' 1 (k + 1) := by rw [List.range'_1_concat]
theorem range_pre (k : Nat) (h : k <= 63) : List.range' 1 k <+: allN := by
 refine ⟨List.range' (1 + k) (63 - k), ?_⟩
 rw [allN, List.range'_append_1, show k + (63 - k) = 63 by omega]
theorem all_stops (n n₀ : Nat) (hn : 1 <= n) (w : World) :
  SeqStopsK Fence.wide n Tryz.prog 166 #[] (fun x : Nat => #[rowV (x : Int) (nm x) (ri x) (ro x) (rc x) (rb x)]) (Below n₀) (fun xs => xs = allN) (fun pre => pre <+: allN) 63 w := fun l J Jx W hW hJ hJx hY h0 => by
 refine callsIn_of_wp Tryz.func166 rfl trivial ?_ rfl
 simp only [Tryz.ntmps166, List.size_toArray, List.length_cons, List.length_nil, Nat.reduceAdd, Nat.reduceSub, Array.replicate_succ, Array.replicate_zero, List.push_toArray, List.append_toArray, List.nil_append, List.cons_append]
 have hfd := field0
 unfold rowV at hfd
 gi_wp2
 gi_loopw [2] (fun i wr => ∃ k : Nat, k <= 63 /\ i = .int .i64 ((1 + k : Nat) : Int) /\ J (List.range' 1 k) wr) (fun i _ => 64 - (intOf i).toNat)
 case atStart => exact ⟨0, by omega, rfl, h0⟩
 case round =>
  obtain ⟨k, hk, rfl, hJs⟩ := hrel
  by_cases hlt : k < 63
  ·obtain ⟨kk, bl, s, f, hf, _, hE⟩ := ent_at (1 + k) (by omega) (by omega)
   have hYk : ∀ W1, J (List.range' 1 k) W1 -> _ := fun W1 h => hY (List.range' 1 k) (1 + k) W1 h (by simp; omega)
   have hpre := range_pre (k + 1) (by omega)
   rw [<- range_snoc] at hpre
   have hi0 : ((1 + k : Nat) : Int) < 64 := by omega
   have hn1 : IntKind.i64.wrap (((1 + k : Nat) : Int) + 1) = ((1 + (k + 1) : Nat) : Int) := by rw [S.i64_id _ (by omega) (by omega)]; omega
   have hms : (64 - (((1 + (k + 1) : Nat) : Int)).toNat) < 64 - (((1 + k : Nat) : Int)).toNat := by omega
   generalize hz : ((1 + k : Nat) : Int) = z at *
   generalize hz2 : ((1 + (k + 1) : Nat) : Int) = z2 at *
   generalize nm (1 + k) = a1 at *
   generalize ri (1 + k) = a2 at *
   generalize ro (1 + k) = a3 at *
   generalize rc (1 + k) = a4 at *
   generalize rb (1 + k) = a5 at *
   have HZ := S.hid (And.intro hz hz2)
   have HM := S.hid hms
   clear hz hz2 hms
   gi_wp2_with (refine ⟨trivial, ?_⟩; gi_at_call 58; refine (callsIn_wide.2 (hE _)).mono ?_; rintro e w1 ⟨rfl, hB⟩; unfold entV; obtain ⟨fn, tmps, assign, body, hy, hR⟩ := hYk w1 (hJ _ _ _ none hJs (grown_of hB) (fun r e => by cases e)); unfold rowV at hy)
   refine hR.mono ?_
   rintro e W3 (⟨rfl, hJ3, hk3⟩ | ⟨rfl, hJx3⟩)
   ·gi_wp2
    rw [range_snoc] at hJ3
    refine ⟨⟨k + 1, by omega, by rw [HZ.out.2], hJ3⟩, ?_⟩
    have := HM.out
    simpa [intOf] using this
   ·gi_wp2
    refine bodyPost_ret (results_none rfl _ _ _) rfl ?_
    exact ⟨⟨_, rfl⟩, .inr ⟨_, hpre, hJx3⟩⟩
  ·obtain rfl : k = 63 := by omega
   gi_wp2
   go_end0
   exact ⟨⟨_, rfl⟩, .inl ⟨_, rfl, hJs⟩⟩
set_option maxHeartbeats 2000000
set_option maxRecDepth 100000
attribute [local go_sem] Oper.semAt_some
theorem all_any (w : World) : Calls Tryz.prog 161 #[] w fun e w' => e = .returned (.func (.func 166) #[] #[]) /\ w' = w := by
 go_enter Tryz.func161, Tryz.ntmps161
 go_wp2
 go_ret
 exact ⟨rfl, rfl⟩
theorem blk_kept {W W' : World} {row : Option Nat} {b : Nat} {c : Array Value} {t : TypeId} {x : Nat × Nat} (h : W.heap[b]? = some (.cells c t x)) (hg : W.grownBy W' row) (hr : ∀ r, row = some r -> ∃ o : Obj, W.heap[r]? = some o /\ o.isCells = false) : W'.heap[b]? = some (.cells c t x) := by
 refine (hg.block b (S.lt_of h) ?_).trans h
 intro e
 obtain ⟨o, ho, hc⟩ := hr b e.symm
 rw [h] at ho
 cases ho
 cases hc
def rowC (x : Nat) : Array Value := #[.int .i64 (x : Int), .string (nm x), .int .i64 (ri x), .int .i64 (ro x), .int .i64 (rc x), .bool (rb x)]
def NB (W : World) (B : Nat) (name : ByteArray) (c : Array Value) (b : Bool) : Prop := W.heap[B]? = some (.cells #[.string name] 9 (0, 0)) /\ W.heap[B + 1]? = some (.cells c 128 (0, 0)) /\ W.heap[B + 2]? = some (.cells #[.bool b] 4 (0, 0))
theorem NB.kept {W W' : World} {row : Option Nat} {B : Nat} {name : ByteArray} {c : Array Value} {b : Bool} (h : NB W B name c b) (hg : W.grownBy W' row) (hr : ∀ r, row = some r -> ∃ o : Obj, W.heap[r]? = some o /\ o.isCells = false) : NB W' B name c b :=
 ⟨blk_kept h.1 hg hr, blk_kept h.2.1 hg hr, blk_kept h.2.2 hg hr⟩
theorem ko {W W' : World} (h : KeepsOthers W W') (p : Addr) (v : Value) : KeepsOthers W (W'.setCell p v) := h.trans (KeepsOthers.setCell _ _ _)
theorem named_yes (name : ByteArray) (hne : name.toList.isEmpty = false) (w : World) :
  Calls Tryz.prog 147 #[.string name] w fun e w' => ((∃ x, x ∈ allN /\ (nm x).toList = name.toList /\ e = .returned (.tuple #[rowN x, .bool true])) \/ ((∀ x ∈ allN, (nm x).toList ≠ name.toList) /\ e = .returned (.tuple #[rowV 0 ⟨#[]⟩ 0 0 0 false, .bool false]))) /\ Below w.heap.size w w' := by
 refine (callsIn_wide (n := 9)).1 ?_
 refine callsIn_of_wp_marks Tryz.func147 rfl trivial ?_ rfl
 simp only [Tryz.ntmps147, List.size_toArray, List.length_cons, List.length_nil, Nat.reduceAdd, Nat.reduceSub, Array.replicate_succ, Array.replicate_zero, List.push_toArray, List.append_toArray, List.nil_append, List.cons_append]
 gi_wp2_with (refine ⟨trivial, ?_⟩; gi_at_call 161; refine (callsIn_wide.2 (all_any _)).mono ?_; rintro e w' ⟨rfl, rfl⟩)
 obtain ⟨w0, hw0⟩ : ∃ w0, ((w.alloc (.cells #[.string name] 9)).alloc (.cells #[.int .i64 0, .string { data := #[] }, .int .i64 0, .int .i64 0, .int .i64 0, .bool false] 128)).alloc (.cells #[.bool false] 4) = w0 := ⟨_, rfl⟩
 have hB0 : Below w.heap.size w w0 := by rw [<- hw0]; exact (((Below.refl _ w).alloc (Nat.le_refl _) _).alloc (by simp) _).alloc (by simp; omega) _
 have hsz : w0.heap.size = w.heap.size + 3 := by rw [<- hw0]; simp
 have hN0 : NB w0 w.heap.size name zR false := by
  rw [<- hw0]
  have z1 : (w.alloc (.cells #[.string name] 9)).heap.size = w.heap.size + 1 := by simp
  have z2 : ((w.alloc (.cells #[.string name] 9)).alloc (.cells #[.int .i64 0, .string { data := #[] }, .int .i64 0, .int .i64 0, .int .i64 0, .bool false] 128)).heap.size = w.heap.size + 2 := by simp
  refine ⟨?_, ?_, ?_⟩
  ·exact (Below.heap_alloc _ _ _ (by omega)).trans ((Below.heap_alloc _ _ _ (by omega)).trans (heap_alloc_new w _))
  ·exact (Below.heap_alloc _ _ _ (by omega)).trans (heap_alloc2_new w _ _)
  ·have := heap_alloc_new ((w.alloc (.cells #[.string name] 9)).alloc (.cells #[.int .i64 0, .string { data := #[] }, .int .i64 0, .int .i64 0, .int .i64 0, .bool false] 128)) (.cells #[.bool false] 4)
   rw [z2] at this; exact this
 rw [hw0]
 refine wpIn_rangeFunc_ownH rfl (by omega) (gf := 166) (lb := #[]) rfl trivial Tryz.call166 (all_stops 8 w.heap.size (by omega) w0) belowK_t (belowK_b (by omega)) (Below.refl _ _) (fun _ => rfl)
  (fun pre W => ((∀ y ∈ pre, (nm y).toList ≠ name.toList) /\ NB W w.heap.size name zR false) /\ Below w.heap.size w W)
  (fun c pre W => (c = .ret /\ (∃ y, y ∈ pre /\ (nm y).toList = name.toList /\ NB W w.heap.size name (rowC y) true)) /\ Below w.heap.size w W)
  (OwnFrom.and (Own.from (fun s A B row hs hg hr => ⟨hs.1, hs.2.kept hg hr⟩) _) (ownFrom_below (Nat.le_refl _) (by omega)))
  (fun c => OwnFrom.and (Own.from (fun s A B row hs hg hr => ⟨hs.1, by obtain ⟨y, h1, h2, h3⟩ := hs.2; exact ⟨y, h1, h2, h3.kept hg hr⟩⟩) _) (ownFrom_below (Nat.le_refl _) (by omega)))
  ⟨⟨by simp, hN0⟩, hB0⟩
  (fun x a' W => ∃ Bx, w0.heap.size <= Bx /\ W.heap[Bx]? = some (.cells #[.int .i64 (x : Int), .string (nm x), .int .i64 (ri x), .int .i64 (ro x), .int .i64 (rc x), .bool (rb x)] 128 (0, 0)) /\ a' = { tmps := #[.string name, .pointer (some ⟨w.heap.size, 0, none⟩), .pointer (some ⟨w.heap.size + 1, 0, none⟩), .pointer (some ⟨w.heap.size + 1 + 1, 0, none⟩), .pointer (some ⟨Bx, 0, none⟩), .string name, .bool false, undef, .func (.func 166) #[] #[], .agg #[.int .i64 (x : Int), .string (nm x), .int .i64 (ri x), .int .i64 (ro x), .int .i64 (rc x), .bool (rb x)], undef, undef, undef, undef, undef, undef], defers := [] })
  (fun x a' s A B row hs hg hr => by obtain ⟨Bx, h1, h2, h3⟩ := hs; exact ⟨Bx, h1, blk_kept h2 hg (fun r e => (hr r e).2), h3⟩) ?assign ?body ?done ?stop
 case assign =>
  rintro l pre x W K ⟨⟨hp, hN⟩, hB⟩ hK
  have hs : w0.heap.size <= W.heap.size := by have := S.lt_of hN.2.2; omega
  unfold rowV
  gi_wp2
  exact hK _ _ ((KeepsOthers.alloc _ _).from _) ((Below.refl _ W).alloc (by omega) _) ⟨⟨hp, hN.kept (World.grownBy_alloc W _ none) (fun r e => by cases e)⟩, hB.alloc hB.size _⟩ ⟨W.heap.size, hs, heap_alloc_new W _, rfl⟩
 case body =>
  rintro l pre x a' W hl ⟨r, hr⟩ ⟨⟨hp, hN⟩, hB⟩ ⟨Bx, hBx, hX, rfl⟩ hlt
  have cN := S.cell_of W w.heap.size 0 [.string name] 9 _ hN.1 rfl
  have c0 := S.cell_of W Bx 0 [.int .i64 (x : Int), .string (nm x), .int .i64 (ri x), .int .i64 (ro x), .int .i64 (rc x), .bool (rb x)] 128 _ hX rfl
  have c1 := S.cell_of W Bx 1 [.int .i64 (x : Int), .string (nm x), .int .i64 (ri x), .int .i64 (ro x), .int .i64 (rc x), .bool (rb x)] 128 _ hX rfl
  have c2 := S.cell_of W Bx 2 [.int .i64 (x : Int), .string (nm x), .int .i64 (ri x), .int .i64 (ro x), .int .i64 (rc x), .bool (rb x)] 128 _ hX rfl
  have c3 := S.cell_of W Bx 3 [.int .i64 (x : Int), .string (nm x), .int .i64 (ri x), .int .i64 (ro x), .int .i64 (rc x), .bool (rb x)] 128 _ hX rfl
  have c4 := S.cell_of W Bx 4 [.int .i64 (x : Int), .string (nm x), .int .i64 (ri x), .int .i64 (ro x), .int .i64 (rc x), .bool (rb x)] 128 _ hX rfl
  have c5 := S.cell_of W Bx 5 [.int .i64 (x : Int), .string (nm x), .int .i64 (ri x), .int .i64 (ro x), .int .i64 (rc x), .bool (rb x)] 128 _ hX rfl
  have d0 := S.cell_of W (w.heap.size + 1) 0 [.int .i64 0, .string { data := #[] }, .int .i64 0, .int .i64 0, .int .i64 0, .bool false] 128 _ hN.2.1 rfl
  have d1 := S.cell_of W (w.heap.size + 1) 1 [.int .i64 0, .string { data := #[] }, .int .i64 0, .int .i64 0, .int .i64 0, .bool false] 128 _ hN.2.1 rfl
  have d2 := S.cell_of W (w.heap.size + 1) 2 [.int .i64 0, .string { data := #[] }, .int .i64 0, .int .i64 0, .int .i64 0, .bool false] 128 _ hN.2.1 rfl
  have d3 := S.cell_of W (w.heap.size + 1) 3 [.int .i64 0, .string { data := #[] }, .int .i64 0, .int .i64 0, .int .i64 0, .bool false] 128 _ hN.2.1 rfl
  have d4 := S.cell_of W (w.heap.size + 1) 4 [.int .i64 0, .string { data := #[] }, .int .i64 0, .int .i64 0, .int .i64 0, .bool false] 128 _ hN.2.1 rfl
  have d5 := S.cell_of W (w.heap.size + 1) 5 [.int .i64 0, .string { data := #[] }, .int .i64 0, .int .i64 0, .int .i64 0, .bool false] 128 _ hN.2.1 rfl
  have e0 := S.cell_of W (w.heap.size + 2) 0 [.bool false] 4 _ hN.2.2 rfl
  have f1 : ∀ i, W.frozen? ⟨w.heap.size + 1, i, none⟩ = false := fun i => S.frozen_of W (w.heap.size + 1) i [.int .i64 0, .string { data := #[] }, .int .i64 0, .int .i64 0, .int .i64 0, .bool false] 128 hN.2.1
  have f2 := S.frozen_of W (w.heap.size + 2) 0 [.bool false] 4 hN.2.2
  have hne1 : w.heap.size + 1 ≠ w.heap.size + 2 := by omega
  by_cases hx : ((nm x).toList == name.toList) = true
  ·gi_wp2
   have q := S.setCell_heap _ (w.heap.size + 1) 5 _ 128 (.bool (rb x)) (S.setCell_heap _ (w.heap.size + 1) 4 _ 128 (.int .i64 (rc x)) (S.setCell_heap _ (w.heap.size + 1) 3 _ 128 (.int .i64 (ro x)) (S.setCell_heap _ (w.heap.size + 1) 2 _ 128 (.int .i64 (ri x)) (S.setCell_heap _ (w.heap.size + 1) 1 _ 128 (.string (nm x)) (S.setCell_heap W (w.heap.size + 1) 0 [.int .i64 0, .string { data := #[] }, .int .i64 0, .int .i64 0, .int .i64 0, .bool false] 128 (.int .i64 (x : Int)) hN.2.1)))))
   have t1 : ∀ (V : World) (i : Nat) (v : Value) (k : Nat), k ≠ w.heap.size + 1 -> (V.setCell ⟨w.heap.size + 1, i, none⟩ v).heap[k]? = V.heap[k]? := fun V i v k h => S.setCell_other V _ _ _ _ h
   refine ⟨(ko (ko (ko (ko (ko (ko (ko (KeepsOthers.refl _) _ _) _ _) _ _) _ _) _ _) _ _) _ _).from _, ⟨rfl, x, by simp, eq_of_beq hx, ?_, ?_, ?_⟩, ?_⟩
   ·rw [S.setCell_other _ _ _ _ _ (by omega), t1 _ _ _ _ (by omega), t1 _ _ _ _ (by omega), t1 _ _ _ _ (by omega), t1 _ _ _ _ (by omega), t1 _ _ _ _ (by omega), t1 _ _ _ _ (by omega)]; exact hN.1
   ·rw [S.setCell_other _ _ _ _ _ (by omega)]; exact q
   ·refine S.setCell_heap _ (w.heap.size + 2) 0 [.bool false] 4 _ ?_
    rw [t1 _ _ _ _ (by omega), t1 _ _ _ _ (by omega), t1 _ _ _ _ (by omega), t1 _ _ _ _ (by omega), t1 _ _ _ _ (by omega), t1 _ _ _ _ (by omega)]; exact hN.2.2
   ·have t2 : ∀ (V : World), Below w.heap.size w V -> ∀ (b i : Nat) (v : Value), w.heap.size <= b -> Below w.heap.size w (V.setCell ⟨b, i, none⟩ v) := fun V h b i v hb => h.setCell (p := ⟨b, i, none⟩) hb v
    exact t2 _ (t2 _ (t2 _ (t2 _ (t2 _ (t2 _ (t2 _ hB _ _ _ (by omega)) _ _ _ (by omega)) _ _ _ (by omega)) _ _ _ (by omega)) _ _ _ (by omega)) _ _ _ (by omega)) _ _ _ (by omega)
  ·have hx' : ((nm x).toList == name.toList) = false := by simpa using hx
   gi_wp2
   refine ⟨KeepsFrom.refl _ _, Below.refl _ _, ⟨fun y hy => ?_, hN⟩, hB⟩
   rcases List.mem_append.1 hy with hy | hy
   ·exact hp y hy
   ·simp at hy; subst hy; exact fun e => hx (by rw [e]; simp)
 case done =>
  rintro D ys W hD rfl ⟨⟨hne, hN⟩, hB⟩ hK
  have e0 := S.cell_of W (w.heap.size + 2) 0 [.bool false] 4 _ hN.2.2 rfl
  have f2 := S.frozen_of W (w.heap.size + 2) 0 [.bool false] 4 hN.2.2
  have d0 := S.cell_of W (w.heap.size + 1) 0 [.int .i64 0, .string { data := #[] }, .int .i64 0, .int .i64 0, .int .i64 0, .bool false] 128 _ hN.2.1 rfl
  have d1 := S.cell_of W (w.heap.size + 1) 1 [.int .i64 0, .string { data := #[] }, .int .i64 0, .int .i64 0, .int .i64 0, .bool false] 128 _ hN.2.1 rfl
  have d2 := S.cell_of W (w.heap.size + 1) 2 [.int .i64 0, .string { data := #[] }, .int .i64 0, .int .i64 0, .int .i64 0, .bool false] 128 _ hN.2.1 rfl
  have d3 := S.cell_of W (w.heap.size + 1) 3 [.int .i64 0, .string { data := #[] }, .int .i64 0, .int .i64 0, .int .i64 0, .bool false] 128 _ hN.2.1 rfl
  have d4 := S.cell_of W (w.heap.size + 1) 4 [.int .i64 0, .string { data := #[] }, .int .i64 0, .int .i64 0, .int .i64 0, .bool false] 128 _ hN.2.1 rfl
  have d5 := S.cell_of W (w.heap.size + 1) 5 [.int .i64 0, .string { data := #[] }, .int .i64 0, .int .i64 0, .int .i64 0, .bool false] 128 _ hN.2.1 rfl
  have f1 : ∀ i, W.frozen? ⟨w.heap.size + 1, i, none⟩ = false := fun i => S.frozen_of W (w.heap.size + 1) i [.int .i64 0, .string { data := #[] }, .int .i64 0, .int .i64 0, .int .i64 0, .bool false] 128 hN.2.1
  gi_wp2
  have q := S.setCell_heap _ (w.heap.size + 1) 5 _ 128 (.bool false) (S.setCell_heap _ (w.heap.size + 1) 4 _ 128 (.int .i64 0) (S.setCell_heap _ (w.heap.size + 1) 3 _ 128 (.int .i64 0) (S.setCell_heap _ (w.heap.size + 1) 2 _ 128 (.int .i64 0) (S.setCell_heap _ (w.heap.size + 1) 1 _ 128 (.string { data := #[] }) (S.setCell_heap W (w.heap.size + 1) 0 [.int .i64 0, .string { data := #[] }, .int .i64 0, .int .i64 0, .int .i64 0, .bool false] 128 (.int .i64 0) hN.2.1)))))
  have t1 : ∀ (V : World) (i : Nat) (v : Value) (k : Nat), k ≠ w.heap.size + 1 -> (V.setCell ⟨w.heap.size + 1, i, none⟩ v).heap[k]? = V.heap[k]? := fun V i v k h => S.setCell_other V _ _ _ _ h
  have hk7 := ko (ko (ko (ko (ko (ko (ko (KeepsOthers.refl W) ⟨w.heap.size + 1, 0, none⟩ (.int .i64 0)) ⟨w.heap.size + 1, 1, none⟩ (.string { data := #[] })) ⟨w.heap.size + 1, 2, none⟩ (.int .i64 0)) ⟨w.heap.size + 1, 3, none⟩ (.int .i64 0)) ⟨w.heap.size + 1, 4, none⟩ (.int .i64 0)) ⟨w.heap.size + 1, 5, none⟩ (.bool false)) ⟨w.heap.size + 2, 0, none⟩ (.bool false)
  have HKK := hk7.same D _ hK rfl
  have HNB : NB (((((((W.setCell ⟨w.heap.size + 1, 0, none⟩ (.int .i64 0)).setCell ⟨w.heap.size + 1, 1, none⟩ (.string { data := #[] })).setCell ⟨w.heap.size + 1, 2, none⟩ (.int .i64 0)).setCell ⟨w.heap.size + 1, 3, none⟩ (.int .i64 0)).setCell ⟨w.heap.size + 1, 4, none⟩ (.int .i64 0)).setCell ⟨w.heap.size + 1, 5, none⟩ (.bool false)).setCell ⟨w.heap.size + 2, 0, none⟩ (.bool false)) w.heap.size name #[.int .i64 0, .string { data := #[] }, .int .i64 0, .int .i64 0, .int .i64 0, .bool false] false := by
   refine ⟨?_, ?_, ?_⟩
   ·rw [S.setCell_other _ _ _ _ _ (by omega), t1 _ _ _ _ (by omega), t1 _ _ _ _ (by omega), t1 _ _ _ _ (by omega), t1 _ _ _ _ (by omega), t1 _ _ _ _ (by omega), t1 _ _ _ _ (by omega)]; exact hN.1
   ·rw [S.setCell_other _ _ _ _ _ (by omega)]; exact q
   ·refine S.setCell_heap _ (w.heap.size + 2) 0 [.bool false] 4 _ ?_
    rw [t1 _ _ _ _ (by omega), t1 _ _ _ _ (by omega), t1 _ _ _ _ (by omega), t1 _ _ _ _ (by omega), t1 _ _ _ _ (by omega), t1 _ _ _ _ (by omega)]; exact hN.2.2
  have t2 : ∀ (V : World), Below w.heap.size w V -> ∀ (b i : Nat) (v : Value), w.heap.size <= b -> Below w.heap.size w (V.setCell ⟨b, i, none⟩ v) := fun V h b i v hb => h.setCell (p := ⟨b, i, none⟩) hb v
  have HBB := t2 _ (t2 _ (t2 _ (t2 _ (t2 _ (t2 _ (t2 _ hB (w.heap.size + 1) 0 (.int .i64 0) (by omega)) (w.heap.size + 1) 1 (.string { data := #[] }) (by omega)) (w.heap.size + 1) 2 (.int .i64 0) (by omega)) (w.heap.size + 1) 3 (.int .i64 0) (by omega)) (w.heap.size + 1) 4 (.int .i64 0) (by omega)) (w.heap.size + 1) 5 (.bool false) (by omega)) (w.heap.size + 2) 0 (.bool false) (by omega)
  have hN5 := NB.kept HNB (grownBy_putObj' _ D (.deferred none)) (fun r e => by cases e; exact ⟨_, HKK, rfl⟩)
  have g0 := S.cell_of _ (w.heap.size + 1) 0 [.int .i64 0, .string { data := #[] }, .int .i64 0, .int .i64 0, .int .i64 0, .bool false] 128 _ hN5.2.1 rfl
  have g1 := S.cell_of _ (w.heap.size + 1) 1 [.int .i64 0, .string { data := #[] }, .int .i64 0, .int .i64 0, .int .i64 0, .bool false] 128 _ hN5.2.1 rfl
  have g2 := S.cell_of _ (w.heap.size + 1) 2 [.int .i64 0, .string { data := #[] }, .int .i64 0, .int .i64 0, .int .i64 0, .bool false] 128 _ hN5.2.1 rfl
  have g3 := S.cell_of _ (w.heap.size + 1) 3 [.int .i64 0, .string { data := #[] }, .int .i64 0, .int .i64 0, .int .i64 0, .bool false] 128 _ hN5.2.1 rfl
  have g4 := S.cell_of _ (w.heap.size + 1) 4 [.int .i64 0, .string { data := #[] }, .int .i64 0, .int .i64 0, .int .i64 0, .bool false] 128 _ hN5.2.1 rfl
  have g5 := S.cell_of _ (w.heap.size + 1) 5 [.int .i64 0, .string { data := #[] }, .int .i64 0, .int .i64 0, .int .i64 0, .bool false] 128 _ hN5.2.1 rfl
  have g6 := S.cell_of _ (w.heap.size + 2) 0 [.bool false] 4 _ hN5.2.2 rfl
  refine ⟨by simp, .inl ⟨_, _, rfl, run_takeDeferred HKK, ?_⟩⟩
  refine ⟨.tuple #[.agg #[.int .i64 0, .string { data := #[] }, .int .i64 0, .int .i64 0, .int .i64 0, .bool false], .bool false], ?_, .inr ⟨hne, rfl⟩, HBB.trans (belowK_b (w := w) (Nat.le_refl _) _ D _ _ (by omega) HKK rfl rfl)⟩
  simp [results, Tryz.results147, go_sem, g0, g1, g2, g3, g4, g5, g6]
 case stop =>
  rintro D c pre W hD hpre ⟨⟨rfl, y, hy, hn, hN⟩, hB⟩ hK
  gi_wp2
  have HKK := hK
  have HNB := hN
  have HBB := hB
  have hN5 := NB.kept HNB (grownBy_putObj' _ D (.deferred none)) (fun r e => by cases e; exact ⟨_, HKK, rfl⟩)
  have g0 := S.cell_of _ (w.heap.size + 1) 0 [.int .i64 (y : Int), .string (nm y), .int .i64 (ri y), .int .i64 (ro y), .int .i64 (rc y), .bool (rb y)] 128 _ hN5.2.1 rfl
  have g1 := S.cell_of _ (w.heap.size + 1) 1 [.int .i64 (y : Int), .string (nm y), .int .i64 (ri y), .int .i64 (ro y), .int .i64 (rc y), .bool (rb y)] 128 _ hN5.2.1 rfl
  have g2 := S.cell_of _ (w.heap.size + 1) 2 [.int .i64 (y : Int), .string (nm y), .int .i64 (ri y), .int .i64 (ro y), .int .i64 (rc y), .bool (rb y)] 128 _ hN5.2.1 rfl
  have g3 := S.cell_of _ (w.heap.size + 1) 3 [.int .i64 (y : Int), .string (nm y), .int .i64 (ri y), .int .i64 (ro y), .int .i64 (rc y), .bool (rb y)] 128 _ hN5.2.1 rfl
  have g4 := S.cell_of _ (w.heap.size + 1) 4 [.int .i64 (y : Int), .string (nm y), .int .i64 (ri y), .int .i64 (ro y), .int .i64 (rc y), .bool (rb y)] 128 _ hN5.2.1 rfl
  have g5 := S.cell_of _ (w.heap.size + 1) 5 [.int .i64 (y : Int), .string (nm y), .int .i64 (ri y), .int .i64 (ro y), .int .i64 (rc y), .bool (rb y)] 128 _ hN5.2.1 rfl
  have g6 := S.cell_of _ (w.heap.size + 2) 0 [.bool true] 4 _ hN5.2.2 rfl
  refine ⟨by simp, .inl ⟨_, _, rfl, run_takeDeferred HKK, ?_⟩⟩
  refine ⟨.tuple #[.agg #[.int .i64 (y : Int), .string (nm y), .int .i64 (ri y), .int .i64 (ro y), .int .i64 (rc y), .bool (rb y)], .bool true], ?_, .inl ⟨y, hpre.subset hy, hn, rfl⟩, HBB.trans (belowK_b (w := w) (Nat.le_refl _) _ D _ _ (by omega) HKK rfl rfl)⟩
  simp [results, Tryz.results147, go_sem, g0, g1, g2, g3, g4, g5, g6]
theorem named_empty (name : ByteArray) (hne : name.toList.isEmpty = true) (w : World) :
  Calls Tryz.prog 147 #[.string name] w fun e w' => e = .returned (.tuple #[rowV 0 ⟨#[]⟩ 0 0 0 false, .bool false]) /\ Below w.heap.size w w' := by
 go_enter Tryz.func147, Tryz.ntmps147
 go_wp2
 refine bodyPost_ret (v := .tuple #[rowV 0 ⟨#[]⟩ 0 0 0 false, .bool false]) (by simp [results, Tryz.results147, go_sem, rowV]) rfl ⟨rfl, (((Below.refl _ w).alloc (Nat.le_refl _) _).alloc (by simp) _).alloc (by simp; omega) _⟩
end Go.Proofs.YtoemoiehjdmheaaGreat.P
