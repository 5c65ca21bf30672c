import Derived.Test.YtlljelfplffglaaHAp
/-! The law's changes. -/
namespace Go.Proofs.Ytlljelfplffglaa.H
open Go.RowKit
open Go.Proofs
open Go.Proofs.Ytlljelfplffglaa.K
set_option linter.unusedVariables false
set_option linter.unusedSimpArgs false
set_option maxHeartbeats 2000000
set_option maxRecDepth 100000
def mkC : Ch := ⟨777, 0, 0, 0⟩
theorem changes_any (v : Value) (cs : List Ch) (hcl : (cs.length + 1) * 24 ≤ S.room) (w : World) (h : S.Ls eC 4 w v cs) :
    Calls Try.prog 22 #[v] w fun e w' => ∃ g cap, e = .returned (.slice (some ⟨g, 0, none⟩) cs.length cap) ∧ cs.length + 1 ≤ cap ∧ w'.ownsRow w.heap.size 32 4 (.slice (some ⟨g, 0, none⟩) (cs.length + 1) cap) (cs.length + 1) (S.en eC (cs ++ [mkC])) ∧ Below w.heap.size w w' := by
  obtain ⟨pc, cc, rfl, hcc, hsc⟩ := h.ex
  clear h
  have hroom : (cs.length : Int) < 281474976710656 := by unfold S.room at hcl; omega
  have HC := hid hsc
  have HQ := hid hcl
  clear hsc hcl
  go_enter Try.func22, Try.ntmps22
  go_wp2
  go_loopw [3, 4] (fun v i wr => ∃ k : Nat, k ≤ cs.length ∧ i = .int .i64 (k : Int) ∧ wr.ownsRow w.heap.size 32 4 v k (S.en eC (cs.take k)) ∧ Below w.heap.size w wr) (fun _ i _ => cs.length - (intOf i).toNat)
  case atStart => exact ⟨0, by omega, rfl, World.ownsRow_nil _ _ _ _, Below.refl _ _⟩
  case round =>
    obtain ⟨k, hk, rfl, hr, hb⟩ := hrel
    by_cases hlt : k < cs.length
    · have i1 : (k : Int) < cs.length := by omega
      obtain ⟨b, o, rfl, a0, a1, a2, a3⟩ := ls_at HC.out k hlt
      have htk : cs.take (k + 1) = cs.take k ++ [cs[k]] := (List.take_append_getElem hlt).symm
      generalize cs[k] = c at *
      have hbl := World.block_lt_of_cell? w _ a0
      have hbl : b < w.heap.size := hbl
      have c0 := (hb.cell (World.block_lt_of_cell? w _ a0)).trans a0
      have c1 := (hb.cell (World.block_lt_of_cell? w _ a1)).trans a1
      have c2 := (hb.cell (World.block_lt_of_cell? w _ a2)).trans a2
      have c3 := (hb.cell (World.block_lt_of_cell? w _ a3)).trans a3
      have hCe : eC c = [.int .i64 c.x, .int .i64 c.y, .int .u8 (c.o.toNat : Int), .int .u8 (c.n.toNat : Int)] := rfl
      have HR := hid (And.intro hr (And.intro hb htk))
      clear hr hb htk
      go_wp2_with fail
      have hr4 : wr.drew.ownsRow w.heap.size 32 4 u3 k (S.en eC (cs.take k)) := HR.out.1
      have hb4 : Below w.heap.size w wr.drew := ⟨HR.out.2.1.os, HR.out.2.1.tape, HR.out.2.1.output, HR.out.2.1.size, HR.out.2.1.block⟩
      have hq := HQ.out
      refine wp_region_held_drew (S := (fun wz : World => wz.cell? ⟨b, o + k * 4, none⟩ = some (.int .i64 c.x) ∧ wz.cell? ⟨b, o + k * 4 + 1, none⟩ = some (.int .i64 c.y) ∧ wz.cell? ⟨b, o + k * 4 + 2, none⟩ = some (.int .u8 (c.o.toNat : Int)) ∧ wz.cell? ⟨b, o + k * 4 + 3, none⟩ = some (.int .u8 (c.n.toNat : Int)))) (by kernel_rfl) ⟨c0, c1, c2, c3⟩ (fun hHeld => ?_)
      generalize wr.drew = y0 at *
      refine wpAnyH_take (i := 0) (v := ?_) rfl (by kernel_rfl) (by kernel_rfl) (by kernel_rfl) (fun c a w h => h) (Or.inl ⟨by rfl, ?_⟩) hHeld ?_
      rotate_left
      · (intro w hSw; (try dsimp only at hSw); go_simp; try with_reducible rfl)
      simp only [Act.put, List.getElem_toArray, List.getElem_cons_zero, List.getElem_cons_succ, List.setIfInBounds_toArray, List.set_cons_zero, List.set_cons_succ]
      refine wpAnyH_take (i := 1) (v := ?_) rfl (by kernel_rfl) (by kernel_rfl) (by kernel_rfl) (fun c a w h => h) (Or.inl ⟨by rfl, ?_⟩) hHeld ?_
      rotate_left
      · (intro w hSw; (try dsimp only at hSw); go_simp; try with_reducible rfl)
      simp only [Act.put, List.getElem_toArray, List.getElem_cons_zero, List.getElem_cons_succ, List.setIfInBounds_toArray, List.set_cons_zero, List.set_cons_succ]
      refine wpAnyH_take (i := 2) (v := ?_) rfl (by kernel_rfl) (by kernel_rfl) (by kernel_rfl) (fun c a w h => h) (Or.inl ⟨by rfl, ?_⟩) hHeld ?_
      rotate_left
      · (intro w hSw; (try dsimp only at hSw); go_simp; try with_reducible rfl)
      simp only [Act.put, List.getElem_toArray, List.getElem_cons_zero, List.getElem_cons_succ, List.setIfInBounds_toArray, List.set_cons_zero, List.set_cons_succ]
      refine wpAnyH_take (i := 3) (v := ?_) rfl (by kernel_rfl) (by kernel_rfl) (by kernel_rfl) (fun c a w h => h) (Or.inl ⟨by rfl, ?_⟩) hHeld ?_
      rotate_left
      · (intro w hSw; (try dsimp only at hSw); go_simp; try with_reducible rfl)
      simp only [Act.put, List.getElem_toArray, List.getElem_cons_zero, List.getElem_cons_succ, List.setIfInBounds_toArray, List.set_cons_zero, List.set_cons_succ]
      refine wpAnyH_take (i := 4) (v := ?_) rfl (by kernel_rfl) (by kernel_rfl) (by kernel_rfl) (fun c a w h => h) (Or.inl ⟨by rfl, ?_⟩) hHeld ?_
      rotate_left
      · (intro w hSw; (try dsimp only at hSw); go_simp; try with_reducible rfl)
      simp only [Act.put, List.getElem_toArray, List.getElem_cons_zero, List.getElem_cons_succ, List.setIfInBounds_toArray, List.set_cons_zero, List.set_cons_succ]
      refine wpAnyH_take (i := 5) (v := ?_) rfl (by kernel_rfl) (by kernel_rfl) (by kernel_rfl) (fun c a w h => h) (Or.inl ⟨by rfl, ?_⟩) hHeld ?_
      rotate_left
      · (intro w hSw; (try dsimp only at hSw); go_simp; try with_reducible rfl)
      simp only [Act.put, List.getElem_toArray, List.getElem_cons_zero, List.getElem_cons_succ, List.setIfInBounds_toArray, List.set_cons_zero, List.set_cons_succ]
      refine wpAnyH_take (i := 6) (v := ?_) rfl (by kernel_rfl) (by kernel_rfl) (by kernel_rfl) (fun c a w h => h) (Or.inl ⟨by rfl, ?_⟩) hHeld ?_
      rotate_left
      · (intro w hSw; (try dsimp only at hSw); go_simp; try with_reducible rfl)
      simp only [Act.put, List.getElem_toArray, List.getElem_cons_zero, List.getElem_cons_succ, List.setIfInBounds_toArray, List.set_cons_zero, List.set_cons_succ]
      refine wpAnyH_take (i := 7) (v := ?_) rfl (by kernel_rfl) (by kernel_rfl) (by kernel_rfl) (fun c a w h => h) (Or.inl ⟨by rfl, ?_⟩) hHeld ?_
      rotate_left
      · (intro w hSw; (try dsimp only at hSw); go_simp; try with_reducible rfl)
      simp only [Act.put, List.getElem_toArray, List.getElem_cons_zero, List.getElem_cons_succ, List.setIfInBounds_toArray, List.set_cons_zero, List.set_cons_succ]
      refine wpAnyH_take (i := 8) (v := ?_) rfl (by kernel_rfl) (by kernel_rfl) (by kernel_rfl) (fun c a w h => h) (Or.inl ⟨by rfl, ?_⟩) hHeld ?_
      rotate_left
      · (intro w hSw; (try dsimp only at hSw); go_simp; try with_reducible rfl)
      simp only [Act.put, List.getElem_toArray, List.getElem_cons_zero, List.getElem_cons_succ, List.setIfInBounds_toArray, List.set_cons_zero, List.set_cons_succ]
      refine wpAnyH_take (i := 9) (v := ?_) rfl (by kernel_rfl) (by kernel_rfl) (by kernel_rfl) (fun c a w h => h) (Or.inl ⟨by rfl, ?_⟩) hHeld ?_
      rotate_left
      · (intro w hSw; (try dsimp only at hSw); go_simp; try with_reducible rfl)
      simp only [Act.put, List.getElem_toArray, List.getElem_cons_zero, List.getElem_cons_succ, List.setIfInBounds_toArray, List.set_cons_zero, List.set_cons_succ]
      refine wpAnyH_take (i := 10) (v := ?_) rfl (by kernel_rfl) (by kernel_rfl) (by kernel_rfl) (fun c a w h => h) (Or.inl ⟨by rfl, ?_⟩) hHeld ?_
      rotate_left
      · (intro w hSw; (try dsimp only at hSw); go_simp; try with_reducible rfl)
      simp only [Act.put, List.getElem_toArray, List.getElem_cons_zero, List.getElem_cons_succ, List.setIfInBounds_toArray, List.set_cons_zero, List.set_cons_succ]
      refine wpAnyH_take (i := 11) (v := ?_) rfl (by kernel_rfl) (by kernel_rfl) (by kernel_rfl) (fun c a w h => h) (Or.inl ⟨by rfl, ?_⟩) hHeld ?_
      rotate_left
      · (intro w hSw; (try dsimp only at hSw); go_simp; try with_reducible rfl)
      simp only [Act.put, List.getElem_toArray, List.getElem_cons_zero, List.getElem_cons_succ, List.setIfInBounds_toArray, List.set_cons_zero, List.set_cons_succ]
      refine wpAnyH_take (i := 12) (v := ?_) rfl (by kernel_rfl) (by kernel_rfl) (by kernel_rfl) (fun c a w h => h) (Or.inl ⟨by rfl, ?_⟩) hHeld ?_
      rotate_left
      · (intro w hSw; (try dsimp only at hSw); go_simp; try with_reducible rfl)
      simp only [Act.put, List.getElem_toArray, List.getElem_cons_zero, List.getElem_cons_succ, List.setIfInBounds_toArray, List.set_cons_zero, List.set_cons_succ]
      refine wpAnyH_take (i := 13) (v := ?_) rfl (by kernel_rfl) (by kernel_rfl) (by kernel_rfl) (fun c a w h => h) (Or.inl ⟨by rfl, ?_⟩) hHeld ?_
      rotate_left
      · (intro w hSw; (try dsimp only at hSw); go_simp; try with_reducible rfl)
      simp only [Act.put, List.getElem_toArray, List.getElem_cons_zero, List.getElem_cons_succ, List.setIfInBounds_toArray, List.set_cons_zero, List.set_cons_succ]
      refine wpAnyH_take (i := 14) (v := ?_) rfl (by kernel_rfl) (by kernel_rfl) (by kernel_rfl) (fun c a w h => h) (Or.inl ⟨by rfl, ?_⟩) hHeld ?_
      rotate_left
      · (intro w hSw; (try dsimp only at hSw); go_simp; try with_reducible rfl)
      simp only [Act.put, List.getElem_toArray, List.getElem_cons_zero, List.getElem_cons_succ, List.setIfInBounds_toArray, List.set_cons_zero, List.set_cons_succ]
      refine wpAnyH_take (i := 15) (v := ?_) rfl (by kernel_rfl) (by kernel_rfl) (by kernel_rfl) (fun c a w h => h) (Or.inl ⟨by rfl, ?_⟩) hHeld ?_
      rotate_left
      · (intro w hSw; (try dsimp only at hSw); go_simp; try with_reducible rfl)
      simp only [Act.put, List.getElem_toArray, List.getElem_cons_zero, List.getElem_cons_succ, List.setIfInBounds_toArray, List.set_cons_zero, List.set_cons_succ]
      refine wpAnyH_take (i := 16) (v := ?_) rfl (by kernel_rfl) (by kernel_rfl) (by kernel_rfl) (fun c a w h => h) (Or.inl ⟨by rfl, ?_⟩) hHeld ?_
      rotate_left
      · (intro w hSw; (try dsimp only at hSw); go_simp; try with_reducible rfl)
      simp only [Act.put, List.getElem_toArray, List.getElem_cons_zero, List.getElem_cons_succ, List.setIfInBounds_toArray, List.set_cons_zero, List.set_cons_succ]
      refine wpAnyH_take (i := 17) (v := ?_) rfl (by kernel_rfl) (by kernel_rfl) (by kernel_rfl) (fun c a w h => h) (Or.inl ⟨by rfl, ?_⟩) hHeld ?_
      rotate_left
      · (intro w hSw; (try dsimp only at hSw); go_simp; try with_reducible rfl)
      simp only [Act.put, List.getElem_toArray, List.getElem_cons_zero, List.getElem_cons_succ, List.setIfInBounds_toArray, List.set_cons_zero, List.set_cons_succ]
      refine wpAnyH_take (i := 18) (v := ?_) rfl (by kernel_rfl) (by kernel_rfl) (by kernel_rfl) (fun c a w h => h) (Or.inl ⟨by rfl, ?_⟩) hHeld ?_
      rotate_left
      · (intro w hSw; (try dsimp only at hSw); go_simp; try with_reducible rfl)
      simp only [Act.put, List.getElem_toArray, List.getElem_cons_zero, List.getElem_cons_succ, List.setIfInBounds_toArray, List.set_cons_zero, List.set_cons_succ]
      refine wpAnyH_take (i := 19) (v := ?_) rfl (by kernel_rfl) (by kernel_rfl) (by kernel_rfl) (fun c a w h => h) (Or.inl ⟨by rfl, ?_⟩) hHeld ?_
      rotate_left
      · (intro w hSw; (try dsimp only at hSw); go_simp; try with_reducible rfl)
      simp only [Act.put, List.getElem_toArray, List.getElem_cons_zero, List.getElem_cons_succ, List.setIfInBounds_toArray, List.set_cons_zero, List.set_cons_succ]
      refine wpAnyH_take (i := 20) (v := ?_) rfl (by kernel_rfl) (by kernel_rfl) (by kernel_rfl) (fun c a w h => h) (Or.inl ⟨by rfl, ?_⟩) hHeld ?_
      rotate_left
      · (intro w hSw; (try dsimp only at hSw); go_simp; try with_reducible rfl)
      simp only [Act.put, List.getElem_toArray, List.getElem_cons_zero, List.getElem_cons_succ, List.setIfInBounds_toArray, List.set_cons_zero, List.set_cons_succ]
      refine wpAnyH_take (i := 21) (v := ?_) rfl (by kernel_rfl) (by kernel_rfl) (by kernel_rfl) (fun c a w h => h) (Or.inl ⟨by rfl, ?_⟩) hHeld ?_
      rotate_left
      · (intro w hSw; (try dsimp only at hSw); go_simp; try with_reducible rfl)
      simp only [Act.put, List.getElem_toArray, List.getElem_cons_zero, List.getElem_cons_succ, List.setIfInBounds_toArray, List.set_cons_zero, List.set_cons_succ]
      have hr6 : (y0.alloc (.cells #[.int .i64 c.x, .int .i64 c.y, .int .u8 (c.o.toNat : Int), .int .u8 (c.n.toNat : Int)] 32)).ownsRow w.heap.size 32 4 u3 k (S.en eC (cs.take k)) := S.own_kept hr4 (fun g _ hg => Below.heap_alloc _ _ _ hg)
      have hb6 : Below w.heap.size w (y0.alloc (.cells #[.int .i64 c.x, .int .i64 c.y, .int .u8 (c.o.toNat : Int), .int .u8 (c.n.toNat : Int)] 32)) := hb4.alloc hb4.size _
      have hs6 := cs_one y0 c 32
      rw [hCe] at hs6
      refine wpAnyH_ready (rs := [22]) (by kernel_rfl) (by simp) ?_
      refine AllReadyH.cons rfl (fun K hK => ?_) AllReadyH.nil
      go_simp
      refine hK.out _ _ ⟨(hb6.cell hbl).trans a0, (hb6.cell hbl).trans a1, (hb6.cell hbl).trans a2, (hb6.cell hbl).trans a3⟩ (fun hHeld => ?_)
      clear hK K
      try simp only [Act.put, List.getElem_toArray, List.getElem_cons_zero, List.getElem_cons_succ, List.setIfInBounds_toArray, List.set_cons_zero, List.set_cons_succ]
      refine wpAnyH_ready (rs := [23]) (by kernel_rfl) (by simp) ?_
      refine AllReadyH.cons rfl (fun K hK => ?_) AllReadyH.nil
      rw [if_pos (by rfl)]
      refine S.wp_append_row _ _ _ 24 32 zC 4 24 Try.underlying24 infoS rfl (by decide) rfl w.heap.size _ k (S.en eC (cs.take k)) rfl hr6 _ 1 _ rfl hs6 (by omega) (by unfold maxLen; omega) hb6.size (fun v1 w1 hr1 hg1 => ?_)
      have hb1 : Below w.heap.size w w1 := hb6.trans (hg1.below (fun g e => (hr6.lt g e).1) hb6.size)
      refine hK.out _ _ ⟨(hb1.cell hbl).trans a0, (hb1.cell hbl).trans a1, (hb1.cell hbl).trans a2, (hb1.cell hbl).trans a3⟩ (fun hHeld => ?_)
      clear hK K
      try simp only [Act.put, List.getElem_toArray, List.getElem_cons_zero, List.getElem_cons_succ, List.setIfInBounds_toArray, List.set_cons_zero, List.set_cons_succ]
      refine wpAnyH_take (i := 24) (v := ?_) rfl (by kernel_rfl) (by kernel_rfl) (by kernel_rfl) (fun c a w h => h) (Or.inl ⟨by rfl, ?_⟩) hHeld ?_
      rotate_left
      · (intro w hSw; (try dsimp only at hSw); go_simp; try with_reducible rfl)
      simp only [Act.put, List.getElem_toArray, List.getElem_cons_zero, List.getElem_cons_succ, List.setIfInBounds_toArray, List.set_cons_zero, List.set_cons_succ]
      refine wpAnyH_done (by kernel_rfl) ?_ _
      have hfin : w1.ownsRow w.heap.size 32 4 v1 (k + 1) (S.en eC (cs.take (k + 1))) := by
        rw [HR.out.2.2, S.en_append]
        have e : S.en eC [c] = eC c := by simp [S.en]
        rw [e, hCe]
        exact hr1
      have HE := hid (And.intro hfin hb1)
      clear hHeld hr6 hb6 hs6 hr4 hb4 hr1 hb1 hg1 hfin c0 c1 c2 c3 hq
      go_wp2
      go_roundw
      case rel => exact ⟨k + 1, by omega, by go_num, HE.out.1, HE.out.2⟩
      case measure => simp [intOf]; omega
    · obtain rfl : k = cs.length := by omega
      rw [List.take_length] at hr
      have hq := HQ.out
      have hb6 : Below w.heap.size w (wr.alloc (.cells (eC mkC).toArray 32)) := hb.alloc hb.size _
      have hr6 : (wr.alloc (.cells (eC mkC).toArray 32)).ownsRow w.heap.size 32 4 u3 cs.length (S.en eC cs) := S.own_kept hr (fun g _ hg => Below.heap_alloc _ _ _ hg)
      have hs6 := cs_one wr mkC 32
      have HR := hid (And.intro hr6 (And.intro hb6 hs6))
      clear hr hb hr6 hb6 hs6 hk hlt
      go_wp2_with (first | (at_builtin; refine S.wpList_append_row _ rfl _ _ 24 32 zC 4 24 Try.underlying24 infoS rfl (by decide) rfl w.heap.size _ cs.length (S.en eC cs) rfl HR.out.1 _ 1 (eC mkC) rfl HR.out.2.2 (by omega) (by unfold maxLen; omega) HR.out.2.1.size ?_))
      intro v1 w1 hr1 hg1
      have hb1 : Below w.heap.size w w1 := HR.out.2.1.trans (hg1.below (fun g e => (HR.out.1.lt g e).1) HR.out.2.1.size)
      have hen : S.en eC (cs ++ [mkC]) = S.en eC cs ++ eC mkC := by rw [S.en_append]; simp [S.en]
      rw [← hen] at hr1
      have hrr := hr1.2
      rcases hrr with ⟨_, h0⟩ | ⟨g, cap, cur, hv, _, _, hcap, _⟩
      · omega
      · subst hv
        have i1 : (cs.length : Int) ≤ cap := by omega
        have HE := hid (And.intro hr1 (And.intro hb1 hcap))
        clear hr1 hb1 hcap hg1 hen HR
        go_wp2
        go_ret
        exact ⟨g, cap, rfl, HE.out.2.2, HE.out.1, HE.out.2.1⟩
end Go.Proofs.Ytlljelfplffglaa.H
