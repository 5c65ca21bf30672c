import Derived.Test.YtmcfbcebjfeemaaNames
import Derived.Test.YtmcfbcebjfeemaaRefBin
namespace Go.Proofs.Ytmcfbcebjfeemaa
open Go.RowKit

theorem info3 : (Try.prog.info? 3).map (fun i => (i.zero, i.size, i.bytes)) = some (some (.int .i64 0), 1, 8) := by kernel_rfl

theorem row_made (w : World) (n : Int) : (w.alloc (.cells #[.int .i64 n] 3)).ownsRow w.heap.size 3 1 (.slice (some ⟨w.heap.size, 0, none⟩) 1 1) 1 ([n].map (Value.int .i64)) :=
  ⟨by simp, .inr ⟨w.heap.size, 1, #[.int .i64 n], rfl, Nat.le_refl _, heap_alloc_new w _, Nat.le_refl _, by decide, by simp, by simp⟩⟩

theorem row_open {w : World} {B : Nat} {v : Value} {n : Nat} {zs : List Int} (h : w.ownsRow B 3 1 v (n + 1) (zs.map (Value.int .i64))) :
    ∃ g cap, v = .slice (some ⟨g, 0, none⟩) (n + 1) cap ∧ ∀ j, j < n + 1 → ∃ E : Int, w.cell? ⟨g, j, none⟩ = some (.int .i64 E) := by
  have hc := fun g hg => World.ownsRow.cells h (g := g) hg
  obtain ⟨hl, h⟩ := h
  rcases h with ⟨_, h0⟩ | ⟨g, cap, cur, rfl, _⟩
  · omega
  · refine ⟨g, cap, rfl, fun j hj => ⟨zs[j]'(by simp at hl; omega), ?_⟩⟩
    have := hc g (by simp [Value.ownBlock]) j (.int .i64 (zs[j]'(by simp at hl; omega))) (by simp at hl; rw [List.getElem?_map, List.getElem?_eq_getElem (by omega)]; rfl)
    by_cases hj0 : j = 0
    · subst hj0; simpa [Addr.add] using this
    · simpa [Addr.add, hj0] using this

set_option maxRecDepth 100000 in
set_option maxHeartbeats 2000000 in
theorem all_any (op n x y : Int) (hx : C x) (hy : C y) (w : World) :
    Calls Try.prog 6 #[.int .i64 op, .int .i64 n, .int .u16 x, .int .u16 y] w fun e w' => e = .returned (.bool true) ∧ Below w.heap.size w w' := by
  obtain ⟨i0, hi, hz0, hz1, hz2⟩ := info_parts info3
  generalize hB : w.heap.size = B
  go_enter Try.func6, Try.ntmps6
  go_wp2_with (first | (go_at_call 10; refine (signed_any _ hx _).mono ?_; rintro e w1 ⟨rfl, hw1⟩; obtain rfl := hw1.symm) | (go_at_call 15; refine (rsigned_any _ hx _).mono ?_; rintro e w1 ⟨rfl, hw1⟩; obtain rfl := hw1.symm) | (go_at_call 11; refine (cell_any _ _).mono ?_; rintro e w1 ⟨rfl, hw1⟩; obtain rfl := hw1.symm) | (go_at_call 16; refine (rcell_any _ _).mono ?_; rintro e w1 ⟨rfl, hw1⟩; obtain rfl := hw1.symm) | (go_at_call 17; refine (flag_any _ _).mono ?_; rintro e w1 ⟨rfl, hw1⟩; obtain rfl := hw1.symm) | (go_at_call 18; refine (rflag_any _ _).mono ?_; rintro e w1 ⟨rfl, hw1⟩; obtain rfl := hw1.symm) | (go_at_call 9; refine (fixed_any _).mono ?_; rintro e w1 ⟨rfl, hw1⟩; obtain rfl := hw1.symm))
  go_loopw [9, 10] (fun v i wr => ∃ (k : Nat) (zs : List Int), k ≤ 67 ∧ i = .int .i64 ((k : Int) - 1) ∧ wr.ownsRow B 3 1 v (k + 1) (zs.map (Value.int .i64)) ∧ Below B w wr ∧ B ≤ wr.heap.size) (fun _ i _ => 67 - (intOf i + 1).toNat)
  case atStart => exact ⟨0, [op], by omega, rfl, by rw [← hB]; exact row_made w op, (Below.refl _ _).alloc (by omega) _, by simp; omega⟩
  case round =>
    obtain ⟨k, zs, hk, rfl, hown, hbel, hsz⟩ := hrel
    by_cases hlt : k < 67
    · go_wp2_with (first | (at_builtin; refine wpList_append_own _ rfl _ _ 35 rfl B 3 i0 (.int .i64 0) 1 8 Try.underlying35 hi hz0 hz1 hz2 rfl (by decide) _ _ _ rfl (hown.alloc _) ⟨wr.heap.size, 0, none⟩ 1 1 [.int .i64 ((k : Int) - 1)] rfl rfl ?c1 ?c2 ?c3 ?c4 ?c5 ?_))
      case c1 =>
        intro j u hj
        match j, hj with
        | 0, hj => simp at hj; subst hj; simp [Addr.add]
      case c2 => intro u hu; simp at hu; subst hu; rfl
      case c3 => unfold maxLen; omega
      case c4 => omega
      case c5 => simp; omega
      intro v' w1 hown' hgrow _
      have hb1 : Below B w w1 := (hbel.alloc hsz _).grown hgrow (by simp; omega) (fun j hj => (hown.lt j hj).1)
      have hs1 : B ≤ w1.heap.size := by have := hb1.size; omega
      have ho1 : w1.ownsRow B 3 1 v' (k + 1 + 1) ((zs ++ [(k : Int) - 1]).map (Value.int .i64)) := by simpa using hown'
      clear hown' hgrow hown hbel hsz
      go_wp2
      go_roundw
      case rel => exact ⟨k + 1, zs ++ [(k : Int) - 1], by omega, by go_num, ho1, hb1, hs1⟩
      case measure => simp [intOf]; omega
    · have e : k = 67 := by omega
      subst e
      obtain ⟨g, cap, rfl, hcell⟩ := row_open hown
      clear hown
      go_wp2
      go_loop [11] (fun i => ∃ j : Nat, j ≤ 68 ∧ i = .int .i64 j) (fun i => 68 - (intOf i).toNat)
      case atStart => exact ⟨0, by omega, rfl⟩
      case round =>
        obtain ⟨j, hj, rfl⟩ := hrel
        by_cases hlt2 : j < 68
        · obtain ⟨E, hE⟩ := hcell j (by omega)
          have HC := hcell
          clear hcell
          go_wp2_with (first | (go_at_call 8; refine (unary_any _ _ hx _).mono ?_; rintro e w1 ⟨rfl, hw1⟩; obtain rfl := hw1.symm) | (go_at_call 19; refine (runary_any _ _ hx _).mono ?_; rintro e w1 ⟨rfl, hw1⟩; obtain rfl := hw1.symm) | (go_at_call 7; refine (binary_any _ _ _ hx hy _).mono ?_; rintro e w1 ⟨rfl, hw1⟩; obtain rfl := hw1.symm) | (go_at_call 20; refine (rbinary_any _ _ _ hx hy _).mono ?_; rintro e w1 ⟨rfl, hw1⟩; obtain rfl := hw1.symm))
          go_round
          case rel => (refine ⟨trivial, ?_⟩; (repeat apply Exists.intro); exact ⟨⟨j + 1, by omega, by go_num⟩, rfl⟩)
          case measure => simp [intOf]; omega
        · go_wp2
          go_ret
          exact ⟨rfl, hbel⟩
end Go.Proofs.Ytmcfbcebjfeemaa
