import Derived.Test.YtlljelfplffglabDoorHScr
import Derived.Test.YtlljelfplffglabDoorShelf
import Derived.Stop.RegionWithIn
/-! Runs back: bytes.Repeat, bytes.Equal, unpacked. -/
namespace Go.Proofs.YtlljelfplffglabDoor.H
open Go.RowKit Go.Shelf
open Go.Proofs
open Go.Proofs.YtlljelfplffglabDoor.K
set_option linter.unusedVariables false
set_option linter.unusedSimpArgs false
set_option maxHeartbeats 2000000
set_option maxRecDepth 100000
attribute [local go_sem] Oper.semAt_some
theorem equal_any (va vb : Value) (a b : List UInt8) (ha0 : a.length ≤ maxLen) (hb0 : b.length ≤ maxLen) (w : World) (ha : Sl w va a) (hb : Sl w vb b) :
    Calls Tryd.prog 21 #[va, vb] w fun e w' => e = .returned (.bool (decide (a = b))) ∧ w' = w := by
  have c1 := ha.conv ha0
  have c2 := hb.conv hb0
  obtain ⟨pa, ca, rfl, _⟩ := ha.ex
  obtain ⟨pb, cb, rfl, _⟩ := hb.ex
  by_cases e : a = b
  · subst e
    simp only [decide_true]
    go_enter Tryd.func21, Tryd.ntmps21
    go_wp2
    go_ret
    exact ⟨by simp, rfl⟩
  · have hn : ¬ (⟨a.toArray⟩ : ByteArray).toList = (⟨b.toArray⟩ : ByteArray).toList := by
      rw [ByteArray.toList_eq, ByteArray.toList_eq]; exact e
    have hn2 : ((⟨a.toArray⟩ : ByteArray).toList == (⟨b.toArray⟩ : ByteArray).toList) = false := by simpa using hn
    rw [decide_eq_false e]
    generalize (⟨a.toArray⟩ : ByteArray) = SA at *
    generalize (⟨b.toArray⟩ : ByteArray) = SB at *
    go_enter Tryd.func21, Tryd.ntmps21
    go_wp2
    go_ret
    exact ⟨by simp [hn2], rfl⟩
theorem unpacked_any (p : Option Addr) (n c : Nat) (w : World) : Calls Tryd.prog 19 #[.slice p n c] w fun e w' => e = .returned (.func (.func 37) #[] #[.pointer (some ⟨w.heap.size, 0, none⟩)]) ∧ w' = w.alloc (.cells #[.slice p n c] 23) := by
  go_enter Tryd.func19, Tryd.ntmps19
  go_wp2
  go_ret
  exact ⟨rfl, rfl⟩
/-- The runs that are laid in bytes: pixel, and their number less 1. -/
def ru : List UInt8 → List (UInt8 × UInt8)
  | n :: p :: r => (p, n) :: ru r
  | _ => []
def ex (x : UInt8 × UInt8) : List UInt8 := List.replicate (x.2.toNat + 1) x.1
theorem up_ru : ∀ (m : Nat) (l : List UInt8), l.length ≤ m → up l = (ru l).flatMap ex
  | 0, l, h => by obtain rfl : l = [] := List.eq_nil_of_length_eq_zero (by omega); rfl
  | m + 1, [], h => rfl
  | m + 1, [_], h => rfl
  | m + 1, n :: p :: r, h => by
    simp at h
    rw [up, ru, List.flatMap_cons, up_ru m r (by omega)]; rfl
theorem ru_two (l : List UInt8) (k : Nat) (h : 2 * k + 1 < l.length) : ru (l.drop (2 * k)) = (l.getD (2 * k + 1) 0, l.getD (2 * k) 0) :: ru (l.drop (2 * (k + 1))) := by
  rw [List.drop_eq_getElem_cons (by omega), List.drop_eq_getElem_cons (by omega), ru]
  simp [show 2 * k < l.length by omega, h, show 2 * (k + 1) = 2 * k + 1 + 1 by omega]
theorem ru_end (l : List UInt8) (k : Nat) (h : ¬ 2 * k + 1 < l.length) : ru (l.drop (2 * k)) = [] := by
  have : (l.drop (2 * k)).length ≤ 1 := by rw [List.length_drop]; omega
  match hd : l.drop (2 * k) with
  | [] => rfl
  | [_] => rfl
  | _ :: _ :: _ => rw [hd] at this; simp at this
theorem unpacked_stops (n n₀ bx : Nat) (hn : 2 ≤ n) (p : Option Addr) (c : Nat) (s : List UInt8) (hl : s.length ≤ room) (w : World) (h0 : n₀ ≤ w.heap.size) (hv : ∀ W, Below n₀ w W → Sl W (.slice p s.length c) s) (hbx : w.heap[bx]? = some (.cells #[.slice p s.length c] 23 (0, 0))) :
    SeqStopsK Fence.wide n Tryd.prog 37 #[.pointer (some ⟨bx, 0, none⟩)] (fun x : UInt8 × UInt8 => #[.int .u8 (x.1.toNat : Int), .int .i64 ((x.2.toNat : Int) + 1)]) (Kq n₀ bx) (fun xs => xs = ru s) (fun pre => pre <+: ru s) s.length w := fun l J Jx W hW hJ hJx hY hJ0 => by
  unfold room at hl
  have hS : Below n₀ w W := hW.mono h0
  have hn1 : 1 ≤ n := by omega
  have hX : W.heap[bx]? = some (.cells #[.slice p s.length c] 23 (0, 0)) := (hW.block bx (Array.getElem?_eq_some_iff.1 hbx).1).trans hbx
  refine callsIn_of_wp Tryd.func37 rfl trivial ?_ rfl
  simp only [Tryd.ntmps37, List.size_toArray, List.length_cons, List.length_nil, Nat.reduceAdd, Nat.reduceSub, Array.replicate_succ, Array.replicate_zero, List.push_toArray, List.append_toArray, List.nil_append, List.cons_append]
  gi_wp2
  gi_loopw [3] (fun i wr => ∃ (k : Nat) (pre : List (UInt8 × UInt8)), 2 * k ≤ s.length + 1 ∧ i = .int .i64 ((2 * k + 1 : Nat) : Int) ∧ pre ++ ru (s.drop (2 * k)) = ru s ∧ pre.length = k ∧ J pre wr ∧ Below n₀ w wr ∧ wr.heap[bx]? = some (.cells #[.slice p s.length c] 23 (0, 0))) (fun i _ => s.length + 2 - (intOf i).toNat)
  case atStart => exact ⟨0, [], by omega, rfl, rfl, rfl, hJ0, hS, hX⟩
  case round =>
    obtain ⟨k, pre, hk, rfl, hpre, hpl, hJs, hB, hx⟩ := hrel
    have hc0 := cell_box hx
    by_cases hlt : 2 * k + 1 < s.length
    · have hsl := hv wr hB
      obtain ⟨x, c', e, hca⟩ := sl_at hsl (2 * k + 1) hlt
      obtain ⟨x2, c2, e2, hcb⟩ := sl_at hsl (2 * k) (by omega)
      simp only [Value.slice.injEq] at e e2
      obtain ⟨rfl, _, rfl⟩ := e
      simp only [Option.some.injEq, true_and] at e2
      obtain ⟨rfl, _⟩ := e2
      rw [ru_two s k hlt] at hpre
      generalize s.getD (2 * k + 1) 0 = b at *
      generalize s.getD (2 * k) 0 = m at *
      have hYk : ∀ W1, J pre W1 → _ := fun W1 h => hY pre (b, m) W1 h (by omega)
      obtain ⟨z, hz⟩ : ∃ z : Nat, 2 * k + 1 = z := ⟨_, rfl⟩
      rw [hz] at hca hlt ⊢
      rw [show 2 * k = z - 1 by omega] at hcb
      have z0 : (z : Int) < s.length := by omega
      have z1 : (1 : Int) ≤ z := by omega
      have z2 : (z : Int) - 1 = ((z - 1 : Nat) : Int) := by omega
      have z3 : ((z - 1 : Nat) : Int) < s.length := by omega
      have z4 : IntKind.i64.wrap ((z : Int) - 1) = ((z - 1 : Nat) : Int) := by rw [IntKind.wrap_i64]; omega
      have z5 : IntKind.i64.wrap ((z : Int) + 2) = (z : Int) + 2 := by rw [IntKind.wrap_i64]; omega
      have hml := m.toNat_lt
      have y1 : IntKind.i64.wrap (m.toNat : Int) = (m.toNat : Int) := by rw [IntKind.wrap_i64]; omega
      have y2 : IntKind.i64.wrap ((m.toNat : Int) + 1) = (m.toNat : Int) + 1 := by rw [IntKind.wrap_i64]; omega
      have z9 : IntKind.i64.wrap ((z - 1 : Nat) : Int) = ((z - 1 : Nat) : Int) := by rw [IntKind.wrap_i64]; omega
      have z6 : (0 : Int) ≤ ((z - 1 : Nat) : Int) := by omega
      have z7 : ((z - 1 : Nat) : Int).toNat = z - 1 := by omega
      have z8 : z - 1 < s.length := by omega
      generalize z - 1 = zp at *
      have HS := hid (And.intro hpre (And.intro hz hpl))
      clear hpre hz hpl
      gi_wp2
      obtain ⟨fn, tmps, assign, body, hy, hR⟩ := hYk wr.drew (hJ _ _ _ none hJs ⟨rfl, rfl, rfl, Nat.le_refl _, fun _ _ _ => rfl⟩ (fun r e => by cases e))
      clear hYk
      have hR2 := hR.mono (R' := fun e W3 => ∃ bb : Bool, e = .returned (.bool bb) ∧ (bb = true → J (pre ++ [(b, m)]) W3 ∧ Kq n₀ bx wr.drew W3) ∧ (bb = false → Jx (pre ++ [(b, m)]) W3)) (by
        rintro e W3 (⟨rfl, h1, h2⟩ | ⟨rfl, h1⟩)
        · exact ⟨true, rfl, fun _ => ⟨h1, h2⟩, (fun h => by cases h)⟩
        · exact ⟨false, rfl, (fun h => by cases h), fun _ => h1⟩)
      clear hR
      gi_region_with (refine hR2.mono ?_; rintro e W3 ⟨bb, rfl, hq⟩)
      all_goals
        cases bb
        · gi_wp2
          refine bodyPost_ret (results_none rfl _ _ _) rfl ?_
          exact ⟨⟨_, rfl⟩, .inr ⟨_, ⟨ru (s.drop (2 * (k + 1))), by rw [List.append_assoc]; exact HS.out.1⟩, hq.2 (by first | rfl | trivial)⟩⟩
        · gi_wp2
          have hq1 := hq.1 (by first | rfl | trivial)
          refine ⟨⟨k + 1, pre ++ [(b, m)], by have := HS.out.2.1; omega, ?_, by rw [List.append_assoc]; exact HS.out.1, by simp [HS.out.2.2], hq1.1, (show Below n₀ w wr.drew from ⟨hB.os, hB.tape, hB.output, hB.size, hB.block⟩).trans hq1.2.1, hq1.2.2 _ _ _ hx⟩, ?_⟩
          · have := HS.out.2.1
            congr 1
            omega
          · simp [intOf]; omega
    · rw [ru_end s k hlt] at hpre
      have i0 : ¬ (((2 * k + 1 : Nat) : Int) < (s.length : Int)) := by omega
      have i1 : decide (((2 * k + 1 : Nat) : Int) < (s.length : Int)) = false := decide_eq_false i0
      generalize ((2 * k + 1 : Nat) : Int) = z at *
      have hJs2 : J (ru s) wr := by rw [← hpre, List.append_nil]; exact hJs
      gi_wp2
      go_end0
      exact ⟨⟨_, rfl⟩, .inl hJs2⟩
end Go.Proofs.YtlljelfplffglabDoor.H
