import Derived.Test.YtnoedlcdcoeokaaDoorFixed
/-! The closed statement: TextNames. -/
namespace Go.Proofs.YtnoedlcdcoeokaaDoor
open Go.RowKit
set_option linter.unusedVariables false

def srow (l : List (List UInt8)) : Array Value := (l.map fun x => Value.string ⟨x.toArray⟩).toArray
theorem srow_cell {w : World} {b : Nat} {l : List (List UInt8)} (h : w.heap[b]? = some (.cells (srow l) 9 (0, 0))) (k : Nat) (hk : k < l.length) : w.cell? ⟨b, k, none⟩ = some (.string ⟨(l.getD k []).toArray⟩) := by
  rw [cell_of_row w b k _ _ _ h]
  simp [srow, hk]
def noneL : List (List UInt8) := [[], [45], [36], [37], [36, 70, 70], [37, 50], [49, 97], [45, 45, 49], [43, 49], [39, 39], [39, 97, 98, 39], [39, 32, 39]]
def yesL : List (List UInt8) := [[120], [45], [36], [36, 103], [39], [97, 39, 98], [92, 120]]
def noL : List (List UInt8) := [[], [45, 49], [55, 48, 48, 48, 48], [40], [92], [97, 32, 98], [97, 98, 99, 100, 101, 102, 103, 104, 105, 106, 107, 108, 109, 110, 111, 112, 113, 114, 115, 116, 117, 118, 119, 120, 121, 122, 97, 98, 99, 100, 101, 102], [195, 169]]
theorem none_all : ∀ k, k < 12 → numC (noneL.getD k []) = 0 ∧ numE (noneL.getD k []) = 20 ∧ (noneL.getD k []).length ≤ 100 := by decide
theorem yes_all : ∀ k, k < 7 → nameB (yesL.getD k []) = true ∧ (yesL.getD k []).length ≤ 100 := by decide
theorem no_all : ∀ k, k < 8 → nameB (noL.getD k []) = false ∧ (noL.getD k []).length ≤ 100 := by decide
theorem lit_size (l : List UInt8) (h : l.length ≤ 100) : (⟨l.toArray⟩ : ByteArray).size ≤ maxLen := by show l.toArray.size ≤ _; unfold maxLen; simp; omega

def offs7 : Nat → Int := fun j => [0, 1, 2, 3, 6, 99, -5].getD j 0
def pos7 : Nat → Int := fun j => [1, 1, 1, 2, 1, 3, 2, 1, 3, 1, 3, 1, 1, 1].getD j 0
theorem want7 : ∀ j, j < 14 → posf (want ⟨#[97, 98, 10, 99, 100, 10]⟩ offs7) j = pos7 j := by decide
theorem places7 (W : World) : Calls Tryd.prog 10 #[.string ⟨#[97, 98, 10, 99, 100, 10]⟩, .slice (some ⟨W.heap.size, 0, none⟩) 7 7] (W.alloc (.cells #[.int .i64 0, .int .i64 1, .int .i64 2, .int .i64 3, .int .i64 6, .int .i64 99, .int .i64 (-5)] 3)) fun e w' => e = .returned (.slice (some ⟨W.heap.size + 2, 0, none⟩) 7 7) ∧ Below W.heap.size W w' ∧ IRow w' (W.heap.size + 2) 27 pos7 14 := by
  have hr : IRow (W.alloc (.cells #[.int .i64 0, .int .i64 1, .int .i64 2, .int .i64 3, .int .i64 6, .int .i64 99, .int .i64 (-5)] 3)) W.heap.size 3 offs7 7 := heap_alloc_new W _
  have h := places_any ⟨#[97, 98, 10, 99, 100, 10]⟩ (by decide) (some ⟨W.heap.size, 0, none⟩) 7 7 (by omega) offs7 _ (.inr ⟨_, rfl, hr.lt, fun j hj => by
    have ha : (⟨W.heap.size, 0, none⟩ : Addr).add j = ⟨W.heap.size, j, none⟩ := by unfold Addr.add; split <;> simp_all
    rw [ha]; exact hr.cell j hj⟩)
  have hz : (W.alloc (.cells #[.int .i64 0, .int .i64 1, .int .i64 2, .int .i64 3, .int .i64 6, .int .i64 99, .int .i64 (-5)] 3)).heap.size = W.heap.size + 1 := by simp
  rw [hz] at h
  exact h.mono fun e w' ⟨a, b, c⟩ => ⟨a, ((Below.refl _ _).alloc (Nat.le_refl _) _).trans (b.mono (by omega)), c.congr want7⟩
theorem dec0 (W : World) (hW : Tabs W) : Calls Tryd.prog 13 #[.int .u16 0] W fun e w' => ∃ s : ByteArray, e = .returned (.string s) ∧ (s.toList == [48]) = true ∧ Below W.heap.size W w' := by
  have h := decimal_any 0 (by omega) W hW
  have hd : Lib.decDigits 0 = [48] := by simp [Lib.decDigits]
  rw [hd] at h
  exact h.mono fun e w' ⟨a, b⟩ => ⟨_, a, str_beq rfl, b⟩
theorem hex0 (W : World) (hW : Tabs W) : Calls Tryd.prog 14 #[.int .u16 0] W fun e w' => ∃ s : ByteArray, e = .returned (.string s) ∧ (s.toList == [36, 48, 48, 48, 48]) = true ∧ Below W.heap.size W w' := by
  have h := hex_any 0 (by omega) W hW.bru
  exact h.mono fun e w' ⟨a, b⟩ => ⟨_, a, str_beq (by decide), b⟩

set_option maxHeartbeats 4000000 in
set_option maxRecDepth 100000 in
theorem names_any (w : World) (hT : Tabs w) : Calls Tryd.prog 4 #[] w fun e w' => e = .returned (.bool true) ∧ Below w.heap.size w w' := by
  have hB := Below.refl w.heap.size w
  go_enter Tryd.func4, Tryd.ntmps4
  go_wp2_with (first
    | (go_at_call 9; refine (fixed_any _ (hT.below hB)).mono ?_; rintro e wn ⟨rfl, hb⟩; replace hB := hB.trans (hb.mono hB.size); clear hb)
    | (go_at_call 11; refine (told_yes _ _ _ (by decide) _ (by decide) (by decide)).mono ?_; rintro e wn ⟨rfl, hb⟩; replace hB := hB.trans (hb.mono hB.size); clear hb))
  have hz := hB.size
  go_loopw [2] (fun i wr => ∃ k : Nat, k ≤ 12 ∧ i = .int .i64 k ∧ Below w.heap.size w wr ∧ wr.heap[wn.heap.size]? = some (.cells (srow noneL) 9 (0, 0))) (fun i _ => 12 - (intOf i).toNat)
  case atStart => exact ⟨0, by omega, rfl, hB.alloc hz _, heap_alloc_new wn _⟩
  case round =>
    clear hB
    obtain ⟨k, hk, rfl, hB, hrow⟩ := hrel
    have hz1 := hB.size
    have hlt1 : wn.heap.size < wr.heap.size := (Array.getElem?_eq_some_iff.1 hrow).1
    by_cases hlt : k < 12
    · obtain ⟨n1, n2, n3⟩ := none_all k hlt
      have hc := srow_cell hrow k hlt
      have hcall := told_yes ⟨(noneL.getD k []).toArray⟩ 0 20 (lit_size _ n3) wr n1 n2
      have i0 : (0 : Int) ≤ (k : Int) := by omega
      have i1 : (k : Int) < 12 := by omega
      clear n1 n2 n3
      go_wp2_with (go_at_call 11; refine hcall.mono ?_; rintro e w5 ⟨rfl, hb⟩)
      go_roundw
      case rel => exact ⟨k + 1, by omega, by go_num, hB.trans (hb.mono hz1), (hb.block _ hlt1).trans hrow⟩
      case measure => simp [intOf]; omega
    · clear hrow
      go_wp2_with fail
      generalize hA : wr.heap.size = A
      have h1 : Below w.heap.size w (wr.alloc (.cells (srow yesL) 9)) ∧ (wr.alloc (.cells (srow yesL) 9)).heap[A]? = some (.cells (srow yesL) 9 (0, 0)) := ⟨hB.alloc hz1 _, by rw [← hA]; exact heap_alloc_new wr _⟩
      go_loopw [4] (fun i w2 => ∃ k : Nat, k ≤ 7 ∧ i = .int .i64 k ∧ Below w.heap.size w w2 ∧ w2.heap[A]? = some (.cells (srow yesL) 9 (0, 0))) (fun i _ => 7 - (intOf i).toNat)
      case atStart => exact ⟨0, by omega, rfl, h1.1, h1.2⟩
      case round =>
        clear hB h1 hA hz1 hlt1 hlt hk
        obtain ⟨k, hk, rfl, hB, hrow⟩ := hrel
        have hz1 := hB.size
        have hlt1 : A < wr.heap.size := (Array.getElem?_eq_some_iff.1 hrow).1
        by_cases hlt : k < 7
        · obtain ⟨n1, n3⟩ := yes_all k hlt
          have hc := srow_cell hrow k hlt
          have hcall := name_any ⟨(yesL.getD k []).toArray⟩ (lit_size _ n3) wr
          rw [mk_eq, n1] at hcall
          have i0 : (0 : Int) ≤ (k : Int) := by omega
          have i1 : (k : Int) < 7 := by omega
          clear n1 n3
          go_wp2_with (go_at_call 12; refine hcall.mono ?_; rintro e w5 ⟨rfl, hb⟩)
          go_roundw
          case rel => exact ⟨k + 1, by omega, by go_num, hB.trans (hb.mono hz1), (hb.block _ hlt1).trans hrow⟩
          case measure => simp [intOf]; omega
        · clear hrow
          go_wp2_with fail
          generalize hA' : wr.heap.size = A'
          have h1 : Below w.heap.size w (wr.alloc (.cells (srow noL) 9)) ∧ (wr.alloc (.cells (srow noL) 9)).heap[A']? = some (.cells (srow noL) 9 (0, 0)) := ⟨hB.alloc hz1 _, by rw [← hA']; exact heap_alloc_new wr _⟩
          go_loopw [6] (fun i w2 => ∃ k : Nat, k ≤ 8 ∧ i = .int .i64 k ∧ Below w.heap.size w w2 ∧ w2.heap[A']? = some (.cells (srow noL) 9 (0, 0))) (fun i _ => 8 - (intOf i).toNat)
          case atStart => exact ⟨0, by omega, rfl, h1.1, h1.2⟩
          case round =>
            clear hB h1 hA' hz1 hlt1 hlt hk
            obtain ⟨k, hk, rfl, hB, hrow⟩ := hrel
            have hz1 := hB.size
            have hlt1 : A' < wr.heap.size := (Array.getElem?_eq_some_iff.1 hrow).1
            by_cases hlt : k < 8
            · obtain ⟨n1, n3⟩ := no_all k hlt
              have hc := srow_cell hrow k hlt
              have hcall := name_any ⟨(noL.getD k []).toArray⟩ (lit_size _ n3) wr
              rw [mk_eq, n1] at hcall
              have i0 : (0 : Int) ≤ (k : Int) := by omega
              have i1 : (k : Int) < 8 := by omega
              clear n1 n3
              go_wp2_with (go_at_call 12; refine hcall.mono ?_; rintro e w5 ⟨rfl, hb⟩)
              go_roundw
              case rel => exact ⟨k + 1, by omega, by go_num, hB.trans (hb.mono hz1), (hb.block _ hlt1).trans hrow⟩
              case measure => simp [intOf]; omega
            · clear hrow
              go_wp2_with fail
              refine (places7 wr).mono ?_
              rintro e w3 ⟨rfl, b3, r3⟩
              have B3 := hB.trans (b3.mono hz1)
              have T3 := hT.below B3
              clear b3 hB
              go_wp2_with fail
              refine (dec0 _ T3).mono ?_
              rintro e w4 ⟨s4, rfl, e4, b4⟩
              have T4 := T3.below b4
              have r4 := r3.kept (b4.block _ r3.lt)
              have B4 := B3.trans (b4.mono B3.size)
              clear b4 T3 B3 r3
              go_wp2_with fail
              refine (hex0 _ T4).mono ?_
              rintro e w5 ⟨s5, rfl, e5, b5⟩
              have r5 := r4.kept (b5.block _ r4.lt)
              have B5 := B4.trans (b5.mono B4.size)
              clear b5 T4 r4 B4
              go_wp2_with fail
              have r8 : IRow (w5.alloc (.cells (irow pos7 14) 27)) (wr.heap.size + 2) 27 pos7 (7 * 2) := r5.kept (Below.heap_alloc _ _ _ r5.lt)
              have r9 : IRow (w5.alloc (.cells (irow pos7 14) 27)) w5.heap.size 27 pos7 (7 * 2) := heap_alloc_new w5 _
              have hS := same_yes _ _ 7 7 7 (by omega) _ _ (Lst.of_row r8) (Lst.of_row r9)
              refine Calls.mono hS ?_
              rintro e w8 ⟨rfl, q, rfl⟩
              have B8 := (B5.alloc B5.size (.cells (irow pos7 14) 27)).trans (below_drewN _ q |>.mono (by have := B5.size; simp; omega))
              clear r5 r8 r9 B5 hS
              go_wp2_with fail
              go_ret
              exact ⟨rfl, B8⟩
end Go.Proofs.YtnoedlcdcoeokaaDoor
