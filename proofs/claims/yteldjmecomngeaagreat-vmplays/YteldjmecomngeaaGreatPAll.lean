import Derived.Test.YteldjmecomngeaaGreatPTab
import Derived.Test.YteldjmecomngeaaGreatPRow
import Derived.RangeFuncNested
import Derived.RangeFuncBound
import Derived.RangeFuncCalls
import Derived.RangeFuncLeaves
import Derived.Shelf.Abstract
import Derived.Shelf.RegionOpen
import Derived.OwnWalkIn
import Derived.TacticsInMore
import Derived.LoopNIn
import Derived.LoopIn
namespace Go.Proofs.YteldjmecomngeaaGreat.P
open Go.RowKit Go.Shelf
open Go.Proofs
set_option linter.unusedVariables false
set_option linter.unusedSimpArgs false
set_option maxHeartbeats 2000000
set_option maxRecDepth 100000
attribute [local go_sem] Oper.semAt_some
def nm (x : Nat) : ByteArray := match x with
 | 9 => ⟨#[110, 111, 112]⟩
 | 10 => ⟨#[121, 105, 101, 108, 100]⟩
 | 11 => ⟨#[104, 97, 108, 116]⟩
 | 12 => ⟨#[100, 117, 112]⟩
 | 13 => ⟨#[100, 114, 111, 112]⟩
 | 14 => ⟨#[115, 119, 97, 112]⟩
 | 15 => ⟨#[111, 118, 101, 114]⟩
 | 16 => ⟨#[114, 111, 116]⟩
 | 17 => ⟨#[110, 105, 112]⟩
 | 18 => ⟨#[116, 117, 99, 107]⟩
 | 19 => ⟨#[50, 100, 117, 112]⟩
 | 20 => ⟨#[50, 100, 114, 111, 112]⟩
 | 21 => ⟨#[43]⟩
 | 22 => ⟨#[45]⟩
 | 23 => ⟨#[42]⟩
 | 24 => ⟨#[47]⟩
 | 25 => ⟨#[109, 111, 100]⟩
 | 26 => ⟨#[117, 47]⟩
 | 27 => ⟨#[117, 109, 111, 100]⟩
 | 28 => ⟨#[110, 101, 103, 97, 116, 101]⟩
 | 29 => ⟨#[97, 98, 115]⟩
 | 30 => ⟨#[109, 105, 110]⟩
 | 31 => ⟨#[109, 97, 120]⟩
 | 32 => ⟨#[49, 43]⟩
 | 33 => ⟨#[49, 45]⟩
 | 34 => ⟨#[50, 42]⟩
 | 35 => ⟨#[50, 47]⟩
 | 36 => ⟨#[97, 110, 100]⟩
 | 37 => ⟨#[111, 114]⟩
 | 38 => ⟨#[120, 111, 114]⟩
 | 39 => ⟨#[105, 110, 118, 101, 114, 116]⟩
 | 40 => ⟨#[108, 115, 104, 105, 102, 116]⟩
 | 41 => ⟨#[114, 115, 104, 105, 102, 116]⟩
 | 42 => ⟨#[61]⟩
 | 43 => ⟨#[60, 62]⟩
 | 44 => ⟨#[60]⟩
 | 45 => ⟨#[62]⟩
 | 46 => ⟨#[117, 60]⟩
 | 47 => ⟨#[117, 62]⟩
 | 48 => ⟨#[48, 61]⟩
 | 49 => ⟨#[48, 60]⟩
 | 50 => ⟨#[64]⟩
 | 51 => ⟨#[33]⟩
 | 52 => ⟨#[99, 64]⟩
 | 53 => ⟨#[99, 33]⟩
 | 54 => ⟨#[43, 33]⟩
 | 55 => ⟨#[62, 114]⟩
 | 56 => ⟨#[114, 62]⟩
 | 57 => ⟨#[114, 64]⟩
 | 58 => ⟨#[105]⟩
 | 59 => ⟨#[106]⟩
 | 60 => ⟨#[112, 108, 111, 116]⟩
 | 61 => ⟨#[112, 97, 100]⟩
 | 62 => ⟨#[116, 111, 110, 101]⟩
 | 63 => ⟨#[98, 97, 110, 107]⟩
 | _ => ⟨#[]⟩
def ri (x : Nat) : Int := match x with
 | 5 => 1
 | 6 => 2
 | 12 => 1
 | 13 => 1
 | 14 => 2
 | 15 => 2
 | 16 => 3
 | 17 => 2
 | 18 => 2
 | 19 => 2
 | 20 => 2
 | 21 => 2
 | 22 => 2
 | 23 => 2
 | 24 => 2
 | 25 => 2
 | 26 => 2
 | 27 => 2
 | 28 => 1
 | 29 => 1
 | 30 => 2
 | 31 => 2
 | 32 => 1
 | 33 => 1
 | 34 => 1
 | 35 => 1
 | 36 => 2
 | 37 => 2
 | 38 => 2
 | 39 => 1
 | 40 => 2
 | 41 => 2
 | 42 => 2
 | 43 => 2
 | 44 => 2
 | 45 => 2
 | 46 => 2
 | 47 => 2
 | 48 => 1
 | 49 => 1
 | 50 => 1
 | 51 => 2
 | 52 => 1
 | 53 => 2
 | 54 => 2
 | 55 => 1
 | 60 => 3
 | 62 => 2
 | 63 => 1
 | _ => 0
def ro (x : Nat) : Int := match x with
 | 2 => 1
 | 3 => 1
 | 12 => 2
 | 14 => 2
 | 15 => 3
 | 16 => 3
 | 17 => 1
 | 18 => 3
 | 19 => 4
 | 21 => 1
 | 22 => 1
 | 23 => 1
 | 24 => 1
 | 25 => 1
 | 26 => 1
 | 27 => 1
 | 28 => 1
 | 29 => 1
 | 30 => 1
 | 31 => 1
 | 32 => 1
 | 33 => 1
 | 34 => 1
 | 35 => 1
 | 36 => 1
 | 37 => 1
 | 38 => 1
 | 39 => 1
 | 40 => 1
 | 41 => 1
 | 42 => 1
 | 43 => 1
 | 44 => 1
 | 45 => 1
 | 46 => 1
 | 47 => 1
 | 48 => 1
 | 49 => 1
 | 50 => 1
 | 52 => 1
 | 56 => 1
 | 57 => 1
 | 58 => 1
 | 59 => 1
 | 61 => 1
 | _ => 0
def rc (x : Nat) : Int := match x with
 | 1 => 2
 | 2 => 2
 | 3 => 2
 | 4 => 2
 | 5 => 2
 | 6 => 3
 | 7 => 3
 | 8 => 2
 | 19 => 2
 | 23 => 3
 | 24 => 4
 | 25 => 4
 | 26 => 4
 | 27 => 4
 | 50 => 2
 | 51 => 2
 | 52 => 2
 | 53 => 2
 | 54 => 3
 | 60 => 3
 | 62 => 2
 | _ => 1
def rb (x : Nat) : Bool := match x with
 | 3 => true
 | 4 => true
 | 5 => true
 | 7 => true
 | _ => false
def rowN (x : Nat) : Value := rowV (x : Int) (nm x) (ri x) (ro x) (rc x) (rb x)
theorem num_cases (x : Nat) (h1 : 1 <= x) (h2 : x < 64) : x = 1 \/ x = 2 \/ x = 3 \/ x = 4 \/ x = 5 \/ x = 6 \/ x = 7 \/ x = 8 \/ x = 9 \/ x = 10 \/ x = 11 \/ x = 12 \/ x = 13 \/ x = 14 \/ x = 15 \/ x = 16 \/ x = 17 \/ x = 18 \/ x = 19 \/ x = 20 \/ x = 21 \/ x = 22 \/ x = 23 \/ x = 24 \/ x = 25 \/ x = 26 \/ x = 27 \/ x = 28 \/ x = 29 \/ x = 30 \/ x = 31 \/ x = 32 \/ x = 33 \/ x = 34 \/ x = 35 \/ x = 36 \/ x = 37 \/ x = 38 \/ x = 39 \/ x = 40 \/ x = 41 \/ x = 42 \/ x = 43 \/ x = 44 \/ x = 45 \/ x = 46 \/ x = 47 \/ x = 48 \/ x = 49 \/ x = 50 \/ x = 51 \/ x = 52 \/ x = 53 \/ x = 54 \/ x = 55 \/ x = 56 \/ x = 57 \/ x = 58 \/ x = 59 \/ x = 60 \/ x = 61 \/ x = 62 \/ x = 63 := by omega
theorem ent_at (x : Nat) (h1 : 1 <= x) (h2 : x < 64) : ∃ (k bl s : Int) (f : Value), f.oneCell' = true /\ (f = .nilFunc \/ ∃ g, f = .func (.func g) #[] #[]) /\ ∀ w, Calls Tryz.prog 88 #[.int .i64 (x : Int)] w fun e w' => e = .returned (entV (x : Int) (nm x) (ri x) (ro x) (rc x) (rb x) k bl s f) /\ Below w.heap.size w w' := by
 rcases num_cases x h1 h2 with rfl | rfl | rfl | rfl | rfl | rfl | rfl | rfl | rfl | rfl | rfl | rfl | rfl | rfl | rfl | rfl | rfl | rfl | rfl | rfl | rfl | rfl | rfl | rfl | rfl | rfl | rfl | rfl | rfl | rfl | rfl | rfl | rfl | rfl | rfl | rfl | rfl | rfl | rfl | rfl | rfl | rfl | rfl | rfl | rfl | rfl | rfl | rfl | rfl | rfl | rfl | rfl | rfl | rfl | rfl | rfl | rfl | rfl | rfl | rfl | rfl | rfl | rfl
 ·exact ⟨_, _, _, _, rfl, .inl rfl, (fun w => (entA w).1)⟩
 ·exact ⟨_, _, _, _, rfl, .inl rfl, (fun w => (entA w).2.1)⟩
 ·exact ⟨_, _, _, _, rfl, .inl rfl, (fun w => (entA w).2.2.1)⟩
 ·exact ⟨_, _, _, _, rfl, .inl rfl, (fun w => (entA w).2.2.2.1)⟩
 ·exact ⟨_, _, _, _, rfl, .inl rfl, (fun w => (entA w).2.2.2.2.1)⟩
 ·exact ⟨_, _, _, _, rfl, .inr ⟨_, rfl⟩, (fun w => (entA w).2.2.2.2.2.1)⟩
 ·exact ⟨_, _, _, _, rfl, .inl rfl, (fun w => (entA w).2.2.2.2.2.2.1)⟩
 ·exact ⟨_, _, _, _, rfl, .inl rfl, (fun w => (entA w).2.2.2.2.2.2.2.1)⟩
 ·exact ⟨_, _, _, _, rfl, .inr ⟨_, rfl⟩, (fun w => (entA w).2.2.2.2.2.2.2.2.1)⟩
 ·exact ⟨_, _, _, _, rfl, .inl rfl, (fun w => (entA w).2.2.2.2.2.2.2.2.2.1)⟩
 ·exact ⟨_, _, _, _, rfl, .inl rfl, (fun w => (entA w).2.2.2.2.2.2.2.2.2.2.1)⟩
 ·exact ⟨_, _, _, _, rfl, .inr ⟨_, rfl⟩, (fun w => (entA w).2.2.2.2.2.2.2.2.2.2.2.1)⟩
 ·exact ⟨_, _, _, _, rfl, .inr ⟨_, rfl⟩, (fun w => (entA w).2.2.2.2.2.2.2.2.2.2.2.2.1)⟩
 ·exact ⟨_, _, _, _, rfl, .inr ⟨_, rfl⟩, (fun w => (entA w).2.2.2.2.2.2.2.2.2.2.2.2.2.1)⟩
 ·exact ⟨_, _, _, _, rfl, .inr ⟨_, rfl⟩, (fun w => (entA w).2.2.2.2.2.2.2.2.2.2.2.2.2.2.1)⟩
 ·exact ⟨_, _, _, _, rfl, .inr ⟨_, rfl⟩, (fun w => (entA w).2.2.2.2.2.2.2.2.2.2.2.2.2.2.2)⟩
 ·exact ⟨_, _, _, _, rfl, .inr ⟨_, rfl⟩, (fun w => (entB w).1)⟩
 ·exact ⟨_, _, _, _, rfl, .inr ⟨_, rfl⟩, (fun w => (entB w).2.1)⟩
 ·exact ⟨_, _, _, _, rfl, .inr ⟨_, rfl⟩, (fun w => (entB w).2.2.1)⟩
 ·exact ⟨_, _, _, _, rfl, .inr ⟨_, rfl⟩, (fun w => (entB w).2.2.2.1)⟩
 ·exact ⟨_, _, _, _, rfl, .inr ⟨_, rfl⟩, (fun w => (entB w).2.2.2.2.1)⟩
 ·exact ⟨_, _, _, _, rfl, .inr ⟨_, rfl⟩, (fun w => (entB w).2.2.2.2.2.1)⟩
 ·exact ⟨_, _, _, _, rfl, .inr ⟨_, rfl⟩, (fun w => (entB w).2.2.2.2.2.2.1)⟩
 ·exact ⟨_, _, _, _, rfl, .inr ⟨_, rfl⟩, (fun w => (entB w).2.2.2.2.2.2.2.1)⟩
 ·exact ⟨_, _, _, _, rfl, .inr ⟨_, rfl⟩, (fun w => (entB w).2.2.2.2.2.2.2.2.1)⟩
 ·exact ⟨_, _, _, _, rfl, .inr ⟨_, rfl⟩, (fun w => (entB w).2.2.2.2.2.2.2.2.2.1)⟩
 ·exact ⟨_, _, _, _, rfl, .inr ⟨_, rfl⟩, (fun w => (entB w).2.2.2.2.2.2.2.2.2.2.1)⟩
 ·exact ⟨_, _, _, _, rfl, .inr ⟨_, rfl⟩, (fun w => (entB w).2.2.2.2.2.2.2.2.2.2.2.1)⟩
 ·exact ⟨_, _, _, _, rfl, .inr ⟨_, rfl⟩, (fun w => (entB w).2.2.2.2.2.2.2.2.2.2.2.2.1)⟩
 ·exact ⟨_, _, _, _, rfl, .inr ⟨_, rfl⟩, (fun w => (entB w).2.2.2.2.2.2.2.2.2.2.2.2.2.1)⟩
 ·exact ⟨_, _, _, _, rfl, .inr ⟨_, rfl⟩, (fun w => (entB w).2.2.2.2.2.2.2.2.2.2.2.2.2.2.1)⟩
 ·exact ⟨_, _, _, _, rfl, .inr ⟨_, rfl⟩, (fun w => (entB w).2.2.2.2.2.2.2.2.2.2.2.2.2.2.2)⟩
 ·exact ⟨_, _, _, _, rfl, .inr ⟨_, rfl⟩, (fun w => (entC w).1)⟩
 ·exact ⟨_, _, _, _, rfl, .inr ⟨_, rfl⟩, (fun w => (entC w).2.1)⟩
 ·exact ⟨_, _, _, _, rfl, .inr ⟨_, rfl⟩, (fun w => (entC w).2.2.1)⟩
 ·exact ⟨_, _, _, _, rfl, .inr ⟨_, rfl⟩, (fun w => (entC w).2.2.2.1)⟩
 ·exact ⟨_, _, _, _, rfl, .inr ⟨_, rfl⟩, (fun w => (entC w).2.2.2.2.1)⟩
 ·exact ⟨_, _, _, _, rfl, .inr ⟨_, rfl⟩, (fun w => (entC w).2.2.2.2.2.1)⟩
 ·exact ⟨_, _, _, _, rfl, .inr ⟨_, rfl⟩, (fun w => (entC w).2.2.2.2.2.2.1)⟩
 ·exact ⟨_, _, _, _, rfl, .inr ⟨_, rfl⟩, (fun w => (entC w).2.2.2.2.2.2.2.1)⟩
 ·exact ⟨_, _, _, _, rfl, .inr ⟨_, rfl⟩, (fun w => (entC w).2.2.2.2.2.2.2.2.1)⟩
 ·exact ⟨_, _, _, _, rfl, .inr ⟨_, rfl⟩, (fun w => (entC w).2.2.2.2.2.2.2.2.2.1)⟩
 ·exact ⟨_, _, _, _, rfl, .inr ⟨_, rfl⟩, (fun w => (entC w).2.2.2.2.2.2.2.2.2.2.1)⟩
 ·exact ⟨_, _, _, _, rfl, .inr ⟨_, rfl⟩, (fun w => (entC w).2.2.2.2.2.2.2.2.2.2.2.1)⟩
 ·exact ⟨_, _, _, _, rfl, .inr ⟨_, rfl⟩, (fun w => (entC w).2.2.2.2.2.2.2.2.2.2.2.2.1)⟩
 ·exact ⟨_, _, _, _, rfl, .inr ⟨_, rfl⟩, (fun w => (entC w).2.2.2.2.2.2.2.2.2.2.2.2.2.1)⟩
 ·exact ⟨_, _, _, _, rfl, .inr ⟨_, rfl⟩, (fun w => (entC w).2.2.2.2.2.2.2.2.2.2.2.2.2.2.1)⟩
 ·exact ⟨_, _, _, _, rfl, .inr ⟨_, rfl⟩, (fun w => (entC w).2.2.2.2.2.2.2.2.2.2.2.2.2.2.2)⟩
 ·exact ⟨_, _, _, _, rfl, .inr ⟨_, rfl⟩, (fun w => (entD w).1)⟩
 ·exact ⟨_, _, _, _, rfl, .inr ⟨_, rfl⟩, (fun w => (entD w).2.1)⟩
 ·exact ⟨_, _, _, _, rfl, .inr ⟨_, rfl⟩, (fun w => (entD w).2.2.1)⟩
 ·exact ⟨_, _, _, _, rfl, .inr ⟨_, rfl⟩, (fun w => (entD w).2.2.2.1)⟩
 ·exact ⟨_, _, _, _, rfl, .inr ⟨_, rfl⟩, (fun w => (entD w).2.2.2.2.1)⟩
 ·exact ⟨_, _, _, _, rfl, .inr ⟨_, rfl⟩, (fun w => (entD w).2.2.2.2.2.1)⟩
 ·exact ⟨_, _, _, _, rfl, .inr ⟨_, rfl⟩, (fun w => (entD w).2.2.2.2.2.2.1)⟩
 ·exact ⟨_, _, _, _, rfl, .inr ⟨_, rfl⟩, (fun w => (entD w).2.2.2.2.2.2.2.1)⟩
 ·exact ⟨_, _, _, _, rfl, .inr ⟨_, rfl⟩, (fun w => (entD w).2.2.2.2.2.2.2.2.1)⟩
 ·exact ⟨_, _, _, _, rfl, .inr ⟨_, rfl⟩, (fun w => (entD w).2.2.2.2.2.2.2.2.2.1)⟩
 ·exact ⟨_, _, _, _, rfl, .inr ⟨_, rfl⟩, (fun w => (entD w).2.2.2.2.2.2.2.2.2.2.1)⟩
 ·exact ⟨_, _, _, _, rfl, .inr ⟨_, rfl⟩, (fun w => (entD w).2.2.2.2.2.2.2.2.2.2.2.1)⟩
 ·exact ⟨_, _, _, _, rfl, .inr ⟨_, rfl⟩, (fun w => (entD w).2.2.2.2.2.2.2.2.2.2.2.2.1)⟩
 ·exact ⟨_, _, _, _, rfl, .inr ⟨_, rfl⟩, (fun w => (entD w).2.2.2.2.2.2.2.2.2.2.2.2.2.1)⟩
 ·exact ⟨_, _, _, _, rfl, .inr ⟨_, rfl⟩, (fun w => (entD w).2.2.2.2.2.2.2.2.2.2.2.2.2.2)⟩
theorem of_at (x : Nat) (h1 : 1 <= x) (h2 : x < 64) (w : World) : Calls Tryz.prog 47 #[.int .i64 (x : Int)] w fun e w' => e = .returned (.tuple #[rowN x, .int .i64 0]) /\ Below w.heap.size w w' := by
 obtain ⟨k, bl, s, f, _, _, hE⟩ := ent_at x h1 h2
 exact of_yes _ _ _ _ _ _ _ _ _ _ (by omega) (by omega) hE w
end Go.Proofs.YteldjmecomngeaaGreat.P
namespace Go.Proofs.YteldjmecomngeaaGreat.V
open Go.RowKit
open Go.Proofs
set_option linter.unusedVariables false
set_option linter.unusedSimpArgs false
structure VS where
 code : List UInt8
 pc : Int
 st : Int
 fa : Int
 D : List Int
 R : List (Int × Int)
 m : M.MS
def by8 (c : List UInt8) (a : Int) : Int := (((c[a.toNat]?).getD 0).toNat : Int)
def cel (c : List UInt8) (a : Int) : Option Int := if a % 2 = 0 /\ a + 1 < (c.length : Int) then some (by8 c a + 256 * by8 c (a + 1)) else none
structure LK where
 op : Nat
 x : Int
 f : Int
def opd (c : List UInt8) (pc w : Int) (op : Nat) : Option Int := if P.rb op then cel c ((pc + 2) % 65536) else if op = 2 then cel c ((w + 2) % 65536) else if op = 1 then some ((w + 2) % 65536) else some 0
def look2 (c : List UInt8) (pc w op : Int) : LK := if op < 1 \/ 64 <= op then ⟨0, 0, 6⟩ else match opd c pc w op.toNat with
 | none => ⟨0, 0, 7⟩
 | some x => ⟨op.toNat, x, 0⟩
def look1 (c : List UInt8) (pc w : Int) : LK := match cel c w with
 | none => ⟨0, 0, 7⟩
 | some op => look2 c pc w op
def look0 (c : List UInt8) (pc : Int) : LK := match cel c pc with
 | none => ⟨0, 0, 7⟩
 | some w => look1 c pc w
def look (v : VS) : LK := if v.st = 1 then look0 v.code v.pc else ⟨0, 0, 0⟩
def prV (op : Nat) : Value := if op = 0 then P.rowV 0 ⟨#[]⟩ 0 0 0 false else P.rowN op
structure DN where
 on : Int
 f : Int
 v : VS
structure TN where
 b : Bool
 f : Int
 v : VS
def turn (v : VS) : TN := match v.R.reverse with
 | [] => ⟨false, 3, v⟩
 | (k, i) :: t => if k ≠ 3 then ⟨false, 5, v⟩ else match t with
  | [] => ⟨false, 3, v⟩
  | (k2, l) :: t2 => if k2 ≠ 2 then ⟨false, 5, v⟩ else if (i + 1) % 65536 ≠ l then ⟨true, 0, { v with R := t.reverse ++ [(3, (i + 1) % 65536)] }⟩ else ⟨false, 0, { v with R := t2.reverse }⟩
def pl (op : Int) (be : Int) (v : VS) : DN := ⟨be, P.fl op v.D v.R, if P.fl op v.D v.R = 0 then { v with D := P.nD op v.D v.R v.m, R := P.nR op v.D v.R, m := P.nM op v.D v.m } else v⟩
def dn (op x be : Int) (v : VS) : DN := match op with
 | 1 => if 128 < v.R.length + 1 then ⟨be, 4, v⟩ else ⟨x, 0, { v with R := v.R ++ [(1, be)] }⟩
 | 2 => if 256 < v.D.length + 1 then ⟨be, 2, v⟩ else ⟨be, 0, { v with D := v.D ++ [x] }⟩
 | 3 => if 256 < v.D.length + 1 then ⟨be, 2, v⟩ else ⟨be, 0, { v with D := v.D ++ [x] }⟩
 | 4 => ⟨x, 0, v⟩
 | 5 => match v.D.reverse with
  | [] => ⟨be, 1, v⟩
  | a :: t => ⟨if a = 0 then x else be, 0, { v with D := t.reverse }⟩
 | 7 => if (turn v).b then ⟨x, 0, (turn v).v⟩ else ⟨be, (turn v).f, (turn v).v⟩
 | 8 => match v.R.reverse with
  | [] => ⟨be, 0, { v with st := 2 }⟩
  | (k, a) :: t => if k = 1 then ⟨a, 0, { v with R := t.reverse }⟩ else ⟨0, 5, v⟩
 | 10 => ⟨be, 0, v⟩
 | 11 => ⟨be, 0, { v with st := 2 }⟩
 | op => pl op be v
def beh (pc : Int) (op : Nat) : Int := if P.rb op then (pc + 4) % 65536 else (pc + 2) % 65536
def doo (op : Nat) (x : Int) (v : VS) : Int × VS := ((dn op x (beh v.pc op) v).f, if (dn op x (beh v.pc op) v).f = 0 then { (dn op x (beh v.pc op) v).v with pc := (dn op x (beh v.pc op) v).on } else v)
def fail (f : Int) (v : VS) : VS := { v with st := 3, fa := f }
def step (v : VS) : Bool × VS := if v.st = 1 then (if (look v).f = 0 then (if (doo (look v).op (look v).x v).1 = 0 then ((look v).op == 10, (doo (look v).op (look v).x v).2) else (false, fail (doo (look v).op (look v).x v).1 v)) else (false, fail (look v).f v)) else (false, v)
def cyc (n : Int) (v : VS) : VS := { v with m := { v.m with cyc := n } }
structure WK where
 v : VS
 steps : Int
 spent : Int
def wk : Nat -> Int -> VS -> Int -> Int -> WK
 | 0, B, v, n, s => ⟨v, n, s⟩
 | k + 1, B, v, n, s =>
  if v.st = 1 /\ s < B then
   (if (look v).f = 0 then
    (if B - s < P.rc (look v).op then ⟨v, n, s⟩
     else if (doo (look v).op (look v).x (cyc s v)).1 = 0 then
     (if (look v).op = 10 then ⟨(doo (look v).op (look v).x (cyc s v)).2, n + 1, s + P.rc (look v).op⟩ else wk k B (doo (look v).op (look v).x (cyc s v)).2 (n + 1) (s + P.rc (look v).op))
     else ⟨fail (doo (look v).op (look v).x (cyc s v)).1 (cyc s v), n, s⟩)
   else ⟨fail (look v).f v, n, s⟩)
  else ⟨v, n, s⟩
def frame (v : VS) (pad : Int) (B : Int) : WK := wk B.toNat B { v with m := M.bg v.m pad } 0 0
structure Vf (v : VS) : Prop where
 pc0 : 0 <= v.pc
 pc1 : v.pc < 65536
 d : ∀ x ∈ v.D, C.C x
 r : ∀ q ∈ v.R, C.C q.2
theorem by8_r (c : List UInt8) (a : Int) : 0 <= by8 c a /\ by8 c a < 256 := by
 unfold by8
 generalize (c[a.toNat]?).getD 0 = b
 have := b.toNat_lt
 constructor <;> omega
theorem cel_r {c : List UInt8} {a w : Int} (h : cel c a = some w) : C.C w := by
 unfold cel at h
 have h1 := by8_r c a
 have h2 := by8_r c (a + 1)
 split at h
 ·cases h; unfold C.C; omega
 ·cases h
end Go.Proofs.YteldjmecomngeaaGreat.V
