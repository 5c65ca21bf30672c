import Derived.Test.YteldjmecomngeaaGreatMKit
import Derived.Laws.StructEq
namespace Go.Proofs.YteldjmecomngeaaGreat.M
open Go.RowKit
open Go.Proofs
set_option linter.unusedVariables false
set_option linter.unusedSimpArgs false
theorem tc_get : ∀ (l : List (Int × Int × Int)) (k : Nat) (t : Int × Int × Int), l[k]? = some t -> (tc l)[k * 3]? = some (.int .i64 t.1) /\ (tc l)[k * 3 + 1]? = some (.int .u16 t.2.1) /\ (tc l)[k * 3 + 2]? = some (.int .u8 t.2.2)
 | [], k, t, h => by simp at h
 | a :: l, 0, t, h => by simp at h; subst h; simp [tc, tcell]
 | a :: l, k + 1, t, h => by
  have := tc_get l k t (by simpa using h); rw [show (k + 1) * 3 = k * 3 + 3 by omega, show k * 3 + 3 + 1 = k * 3 + 1 + 3 by omega, show k * 3 + 3 + 2 = k * 3 + 2 + 3 by omega]
  simpa [tc, tcell] using this
theorem trow_get {w : World} {B : Nat} {v : Value} {l : List (Int × Int × Int)} (h : TRow w B v l) : ∃ p c, v = .slice p l.length c /\ ∀ (k : Nat) t, l[k]? = some t -> ∃ b o, p = some ⟨b, o, none⟩ /\ w.cell? ⟨b, o + k * 3, none⟩ = some (.int .i64 t.1) /\ w.cell? ⟨b, o + k * 3 + 1, none⟩ = some (.int .u16 t.2.1) /\ w.cell? ⟨b, o + k * 3 + 2, none⟩ = some (.int .u8 t.2.2) := by
 rcases h.2 with ⟨rfl, h0⟩ | ⟨g, cap, cur, rfl, _⟩
 ·exact ⟨none, 0, by rw [h0], fun k t hk => by have := (List.getElem?_eq_some_iff.1 hk).1; omega⟩
 ·refine ⟨_, cap, rfl, fun k t hk => ?_⟩
  obtain ⟨e1, e2, e3⟩ := tc_get l k t hk; have c1 := World.ownsRow.cells h (g := g) rfl _ _ e1; have c2 := World.ownsRow.cells h (g := g) rfl _ _ e2; have c3 := World.ownsRow.cells h (g := g) rfl _ _ e3; rw [Addr.add_lit] at c1 c2 c3; exact ⟨g, 0, rfl, c1, by rw [<- Nat.add_assoc] at c2; exact c2, by rw [<- Nat.add_assoc] at c3; exact c3⟩
set_option maxHeartbeats 1000000
set_option maxRecDepth 100000
theorem sameTones_any (v v' : Value) (l : List (Int × Int × Int)) (hl : l.length <= room) (w : World) {B B' : Nat} (h : TRow w B v l) (h' : TRow w B' v' l) :
  Calls Tryz.prog 99 #[v, v'] w fun e w' => e = .returned (.bool true) /\ ∃ q, w' = w.drewN q := by
 unfold room at hl
 obtain ⟨p, c, rfl, hc⟩ := trow_get h
 obtain ⟨p', c', rfl, hc'⟩ := trow_get h'
 clear h h'
 go_enter Tryz.func99, Tryz.ntmps99
 go_wp2
 go_loopw [13] (fun i wr => ∃ k q : Nat, k <= l.length /\ i = .int .i64 (k : Int) /\ wr = w.drewN q) (fun i _ => l.length - (intOf i).toNat)
 case atStart => exact ⟨0, 0, by omega, rfl, rfl⟩
 case round =>
  obtain ⟨k, q, hk, rfl, rfl⟩ := hrel
  by_cases hlt : k < l.length
  ·have i1 : (k : Int) < l.length := by omega
   obtain ⟨b, o, rfl, e1, e2, e3⟩ := hc k l[k] (List.getElem?_eq_getElem hlt); obtain ⟨b', o', rfl, f1, f2, f3⟩ := hc' k l[k] (List.getElem?_eq_getElem hlt); generalize l[k] = t at *
   have g1 : ∀ q, (w.drewN q).cell? ⟨b, o + k * 3, none⟩ = some (.int .i64 t.1) := fun q => e1
   have g2 : ∀ q, (w.drewN q).cell? ⟨b, o + k * 3 + 1, none⟩ = some (.int .u16 t.2.1) := fun q => e2
   have g3 : ∀ q, (w.drewN q).cell? ⟨b, o + k * 3 + 2, none⟩ = some (.int .u8 t.2.2) := fun q => e3
   have g4 : ∀ q, (w.drewN q).cell? ⟨b', o' + k * 3, none⟩ = some (.int .i64 t.1) := fun q => f1
   have g5 : ∀ q, (w.drewN q).cell? ⟨b', o' + k * 3 + 1, none⟩ = some (.int .u16 t.2.1) := fun q => f2
   have g6 : ∀ q, (w.drewN q).cell? ⟨b', o' + k * 3 + 2, none⟩ = some (.int .u8 t.2.2) := fun q => f3
   clear hc hc'; go_wp2_with fail
   go_quiet (fail)
   go_wp2; go_roundw
   case rel =>
    first
     | exact ⟨k + 1, _, by omega, by go_num, rfl⟩
     | ((repeat apply Exists.intro); refine ⟨⟨k + 1, _, by omega, ?_, rfl⟩, rfl⟩; go_num)
   case measure => simp [intOf]; omega
  ·obtain rfl : k = l.length := by omega
   go_wp2; go_ret; exact ⟨rfl, _, rfl⟩
end Go.Proofs.YteldjmecomngeaaGreat.M
