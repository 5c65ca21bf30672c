import Derived.Test.YtnoedlcdcoeokaaDoorPlaces
import Derived.Test.YtnoedlcdcoeokaaDoorHex
import Derived.Test.YtnoedlcdcoeokaaDoorName
/-! The statements' own helpers: same, told, fixed. -/
namespace Go.Proofs.YtnoedlcdcoeokaaDoor
open Go.RowKit
set_option linter.unusedVariables false

/-- A list of places as a slice value. -/
def Lst (w : World) (p : Option Addr) (n : Nat) (g : Nat → Int) : Prop := n = 0 ∨ ∃ b, p = some ⟨b, 0, none⟩ ∧ ∀ j, j < n * 2 → w.cell? ⟨b, j, none⟩ = some (.int .i64 (g j))
theorem Lst.of_row {w : World} {b n : Nat} {g : Nat → Int} {t : TypeId} (h : IRow w b t g (n * 2)) : Lst w (some ⟨b, 0, none⟩) n g := .inr ⟨b, rfl, fun j hj => h.cell j hj⟩

set_option maxHeartbeats 1000000 in
set_option maxRecDepth 100000 in
theorem same_yes (p1 p2 : Option Addr) (n c1 c2 : Nat) (hn : n ≤ 1000000) (g : Nat → Int) (w : World) (h1 : Lst w p1 n g) (h2 : Lst w p2 n g) :
    Calls Tryd.prog 15 #[.slice p1 n c1, .slice p2 n c2] w fun e w' => e = .returned (.bool true) ∧ ∃ q, w' = w.drewN q := by
  go_enter Tryd.func15, Tryd.ntmps15
  go_wp2
  go_loopw [5] (fun i wr => ∃ k q : Nat, k ≤ n ∧ i = .int .i64 k ∧ wr = w.drewN q) (fun i _ => n - (intOf i).toNat)
  case atStart => exact ⟨0, 0, Nat.zero_le _, rfl, rfl⟩
  case round =>
    obtain ⟨k, q, hk, rfl, rfl⟩ := hrel
    by_cases hlt : k < n
    · rcases h1 with h | ⟨b1, rfl, hc1⟩
      · omega
      rcases h2 with h | ⟨b2, rfl, hc2⟩
      · omega
      have a1 := hc1 (k * 2) (by omega)
      have a2 := hc1 (k * 2 + 1) (by omega)
      have b1 := hc2 (k * 2) (by omega)
      have b2 := hc2 (k * 2 + 1) (by omega)
      have i0 : (0 : Int) ≤ (k : Int) := by omega
      have i1 : (k : Int) < (n : Int) := by omega
      clear hc1 hc2
      go_wp2
      go_quiet (fail)
      go_wp2
      all_goals
        go_roundw
        case rel => exact ⟨k + 1, _, by omega, by go_num, rfl⟩
        case measure => simp [intOf]; omega
    · go_wp2
      go_ret
      exact ⟨rfl, q, rfl⟩

theorem told_yes (s : ByteArray) (x e : Int) (hs : s.size ≤ maxLen) (w : World) (hx : numC s.data.toList = x) (he : numE s.data.toList = e) :
    Calls Tryd.prog 11 #[.string s, .int .u16 x, .int .i64 e] w fun e w' => e = .returned (.bool true) ∧ Below w.heap.size w w' := by
  subst hx he
  go_enter Tryd.func11, Tryd.ntmps11
  go_wp2_with (go_at_call 21; refine (numeral_any s hs _).mono ?_; rintro e w1 ⟨rfl, hb⟩)
  go_ret
  exact ⟨ret_bool (by simp), hb⟩

theorem Tabs.below {w w' : World} (h : Tabs w) (b : Below w.heap.size w w') : Tabs w' := by
  refine ⟨?_, h.bru.below b⟩
  have h1 := h.p10
  unfold Lib.TabIs World.var? at *
  cases hg : Tryd.prog.globalNamed pow10Name with
  | none => rw [hg] at h1; exact absurd h1 (by simp)
  | some g =>
    rw [hg] at h1
    simp only [Option.bind_some] at h1 ⊢
    cases hh : w.heap[g]? with
    | none => rw [hh] at h1; exact absurd h1 (by simp)
    | some o =>
      have hl : g < w.heap.size := (Array.getElem?_eq_some_iff.1 hh).1
      rw [b.block g hl]; exact h1
theorem dec40000 : Lib.decDigits 40000 = [52, 48, 48, 48, 48] := by simp [Lib.decDigits]
theorem mk_eq (l : List UInt8) : (⟨l.toArray⟩ : ByteArray).data.toList = l := rfl
theorem str_beq {a : ByteArray} {l : List UInt8} (h : a.data.toList = l) : (a.toList == l) = true := by rw [ByteArray.toList_eq, h]; simp

set_option maxHeartbeats 1000000 in
set_option maxRecDepth 100000 in
theorem fixed_any (w : World) (hT : Tabs w) : Calls Tryd.prog 9 #[] w fun e w' => e = .returned (.bool true) ∧ Below w.heap.size w w' := by
  have n1 : numC [36, 102, 102] = 255 ∧ numE [36, 102, 102] = 0 := by decide
  have n2 : numE [120] = 20 := by decide
  have n3 : nameB [50, 100, 117, 112] = true := by decide
  have n4 : nameB [55] = false := by decide
  have c1 : ∀ W : World, Calls Tryd.prog 21 #[.string ⟨#[36, 102, 102]⟩] W fun e w' => e = .returned (.tuple #[.int .u16 255, .int .i64 0]) ∧ Below W.heap.size W w' := fun W => by
    have h := numeral_any ⟨#[36, 102, 102]⟩ (by decide) W
    rw [show (⟨#[36, 102, 102]⟩ : ByteArray).data.toList = [36, 102, 102] from rfl, n1.1, n1.2] at h
    exact h
  have c2 : ∀ W : World, Calls Tryd.prog 21 #[.string ⟨#[120]⟩] W fun e w' => ∃ z : Int, e = .returned (.tuple #[.int .u16 z, .int .i64 20]) ∧ Below W.heap.size W w' := fun W => by
    have h := numeral_any ⟨#[120]⟩ (by decide) W
    rw [show (⟨#[120]⟩ : ByteArray).data.toList = [120] from rfl, n2] at h
    exact h.mono fun e w' ⟨a, b⟩ => ⟨_, a, b⟩
  have c3 : ∀ W : World, Calls Tryd.prog 12 #[.string ⟨#[50, 100, 117, 112]⟩] W fun e w' => e = .returned (.bool true) ∧ Below W.heap.size W w' := fun W => by
    have h := name_any ⟨#[50, 100, 117, 112]⟩ (by decide) W
    rw [show (⟨#[50, 100, 117, 112]⟩ : ByteArray).data.toList = [50, 100, 117, 112] from rfl, n3] at h
    exact h
  have c4 : ∀ W : World, Calls Tryd.prog 12 #[.string ⟨#[55]⟩] W fun e w' => e = .returned (.bool false) ∧ Below W.heap.size W w' := fun W => by
    have h := name_any ⟨#[55]⟩ (by decide) W
    rw [show (⟨#[55]⟩ : ByteArray).data.toList = [55] from rfl, n4] at h
    exact h
  have c5 : ∀ W : World, Tabs W → Calls Tryd.prog 13 #[.int .u16 40000] W fun e w' => ∃ s : ByteArray, e = .returned (.string s) ∧ (s.toList == [52, 48, 48, 48, 48]) = true ∧ Below W.heap.size W w' := fun W hW => by
    have h := decimal_any 40000 (by omega) W hW
    rw [dec40000] at h
    exact h.mono fun e w' ⟨a, b⟩ => ⟨_, a, str_beq rfl, b⟩
  have c6 : ∀ W : World, Tabs W → Calls Tryd.prog 14 #[.int .u16 48879] W fun e w' => ∃ s : ByteArray, e = .returned (.string s) ∧ (s.toList == [36, 98, 101, 101, 102]) = true ∧ Below W.heap.size W w' := fun W hW => by
    have h := hex_any 48879 (by omega) W hW.bru
    exact h.mono fun e w' ⟨a, b⟩ => ⟨_, a, str_beq (by decide), b⟩
  have c7 : ∀ W : World, Calls Tryd.prog 10 #[.string ⟨#[97, 10, 98]⟩, .slice (some ⟨W.heap.size, 0, none⟩) 2 2] (W.alloc (.cells #[.int .i64 2, .int .i64 9] 3)) fun e w' => e = .returned (.slice (some ⟨W.heap.size + 2, 0, none⟩) 2 2) ∧ Below (W.heap.size + 1) (W.alloc (.cells #[.int .i64 2, .int .i64 9] 3)) w' ∧ IRow w' (W.heap.size + 2) 27 (fun j => if j = 1 then 1 else 2) 4 := fun W => by
    have h := places_any ⟨#[97, 10, 98]⟩ (by decide) (some ⟨W.heap.size, 0, none⟩) 2 2 (by omega) (fun j => if j = 0 then 2 else 9) (W.alloc (.cells #[.int .i64 2, .int .i64 9] 3)) (.inr ⟨_, rfl, by simp, fun j hj => by
      have hr := cell_of_row (W.alloc (.cells #[.int .i64 2, .int .i64 9] 3)) W.heap.size j _ _ _ (heap_alloc_new W _)
      have ha : (⟨W.heap.size, 0, none⟩ : Addr).add j = ⟨W.heap.size, j, none⟩ := by unfold Addr.add; split <;> simp_all
      rw [ha, hr]
      match j, hj with
      | 0, _ => rfl
      | 1, _ => rfl⟩)
    have hz : (W.alloc (.cells #[.int .i64 2, .int .i64 9] 3)).heap.size = W.heap.size + 1 := by simp
    rw [hz] at h
    exact h.mono fun e w' ⟨a, b, c⟩ => ⟨a, b, c.congr fun j hj => by
      match j, hj with
      | 0, _ => decide
      | 1, _ => decide
      | 2, _ => decide
      | 3, _ => decide⟩
  clear n1 n2 n3 n4
  go_enter Tryd.func9, Tryd.ntmps9
  go_wp2_with fail
  refine (c1 _).mono ?_
  rintro e w1 ⟨rfl, b1⟩
  go_wp2_with fail
  refine (c2 _).mono ?_
  rintro e w2 ⟨z, rfl, b2⟩
  go_wp2_with fail
  refine (c7 _).mono ?_
  rintro e w3 ⟨rfl, b3, hrow⟩
  have B3 : Below w.heap.size w w3 := (b1.trans (b2.mono b1.size)).trans (((Below.refl _ _).alloc (by have := b1.size; have := b2.size; omega) _).trans (b3.mono (by have := b1.size; have := b2.size; omega)))
  clear b1 b2 b3 c1 c2 c7
  have T3 := hT.below B3
  go_wp2_with fail
  refine (c5 _ T3).mono ?_
  rintro e w4 ⟨s4, rfl, e4, b4⟩
  have T4 := T3.below b4
  have r4 := hrow.kept (b4.block _ hrow.lt)
  have B4 := B3.trans (b4.mono B3.size)
  clear b4 c5 T3 B3 hrow
  go_wp2_with fail
  refine (c6 _ T4).mono ?_
  rintro e w5 ⟨s5, rfl, e5, b5⟩
  have r5 := r4.kept (b5.block _ r4.lt)
  have B5 := B4.trans (b5.mono B4.size)
  clear b5 c6 T4 r4 B4
  go_wp2_with fail
  refine (c3 _).mono ?_
  rintro e w6 ⟨rfl, b6⟩
  have r6 := r5.kept (b6.block _ r5.lt)
  have B6 := B5.trans (b6.mono B5.size)
  clear b6 c3 r5 B5
  go_wp2_with fail
  refine (c4 _).mono ?_
  rintro e w7 ⟨rfl, b7⟩
  have r7 := r6.kept (b7.block _ r6.lt)
  have B7 := B6.trans (b7.mono B6.size)
  clear b7 c4 r6 B6
  go_wp2_with fail
  have r8 : IRow (w7.alloc (.cells #[.int .i64 2, .int .i64 1, .int .i64 2, .int .i64 2] 27)) (w2.heap.size + 2) 27 (fun j => if j = 1 then 1 else 2) (2 * 2) := r7.kept (Below.heap_alloc _ _ _ r7.lt)
  have r9 : IRow (w7.alloc (.cells #[.int .i64 2, .int .i64 1, .int .i64 2, .int .i64 2] 27)) w7.heap.size 27 (fun j => if j = 1 then 1 else 2) (2 * 2) := heap_alloc_new w7 _
  refine (same_yes _ _ 2 2 2 (by omega) _ _ (Lst.of_row r8) (Lst.of_row r9)).mono ?_
  rintro e w8 ⟨rfl, q, rfl⟩
  have B8 := (B7.alloc B7.size (.cells #[.int .i64 2, .int .i64 1, .int .i64 2, .int .i64 2] 27)).trans (below_drewN _ q |>.mono (by have := B7.size; simp; omega))
  clear r7 r8 r9 B7
  go_wp2_with fail
  go_ret
  exact ⟨rfl, B8⟩
end Go.Proofs.YtnoedlcdcoeokaaDoor
