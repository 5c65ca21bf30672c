import Derived.Test.YtlljelfplffglabDoorKLeaf
import Derived.Test.YtlljelfplffglabDoorHMath
import Derived.Deep.RegionHeldLaw
import Derived.Deep.DeepCutAuto
import Derived.Lib.AppendStr
/-! Art, both. -/
namespace Go.Proofs.YtlljelfplffglabDoor.H
open Go.RowKit
open Go.Proofs
open Go.Proofs.YtlljelfplffglabDoor.K
set_option linter.unusedVariables false
set_option linter.unusedSimpArgs false
set_option maxHeartbeats 2000000
set_option maxRecDepth 100000
theorem hid {p : Prop} (h : p) : Hid p := h
def dgs : ByteArray := ⟨#[48, 49, 50, 51, 52, 53, 54, 55, 56, 57, 97, 98, 99, 100, 101, 102]⟩
theorem dgs_at : ∀ n, n < 16 → dgs[n]? = some (dg n) := by decide
theorem ix_dg (W : World) (k : IntKind) (n : Nat) (h : n < 16) : (Instr.index 9 (.string ⟨#[48, 49, 50, 51, 52, 53, 54, 55, 56, 57, 97, 98, 99, 100, 101, 102]⟩) (.int k (n : Int))).run Tryd.prog W = .ok (.int .u8 ((dg n).toNat : Int)) W := by
  have hs : dgs.size = 16 := by decide
  have hi : (0 : Int) ≤ n ∧ (n : Int) < dgs.size := by rw [hs]; omega
  show (Instr.index 9 (.string dgs) (.int k (n : Int))).run Tryd.prog W = _
  rw [run_index_string (P := Tryd.prog) W 9 dgs k n Tryd.underlying9, dif_pos hi]
  have := dgs_at n h
  have hn : (n : Int).toNat < dgs.size := by rw [hs]; omega
  rw [ByteArray.getElem?_lt' _ _ (by rw [hs]; omega)] at this
  simp only [Option.some.injEq] at this
  simp only [Int.toNat_natCast, this]
theorem sl_at {W : World} {v : Value} {l : List UInt8} (h : Sl W v l) (k : Nat) (hk : k < l.length) : ∃ x c, v = .slice (some x) l.length c ∧ W.cell? (x.add k) = some (.int .u8 ((l.getD k 0).toNat : Int)) := by
  rcases h with ⟨rfl, rfl⟩ | ⟨x, c, rfl, _, h⟩
  · simp at hk
  · exact ⟨x, c, rfl, by rw [h k l[k] (by simp)]; simp [hk]⟩
theorem below_append {W W' : World} {v v' : Value} {B : Nat} {l : List UInt8} (h : Row W B v l) (g : Grew W W' v v') (hB : B ≤ W.heap.size) : Below B W W' := g.below (fun g' e => (h.lt g' e).1) hB
theorem make_row (W : World) (c : Nat) (hc : c ≤ 1000000) : ∃ w', (Instr.makeSlice 23 (.int .i64 0) (.int .i64 (c : Int))).run Tryd.prog W = .ok (.slice (some ⟨W.heap.size, 0, none⟩) 0 c) w' ∧ Row w' W.heap.size (.slice (some ⟨W.heap.size, 0, none⟩) 0 c) [] ∧ Below W.heap.size W w' := by
  obtain ⟨i0, hi, hz0, hz1, hz2⟩ := info_parts info5
  obtain ⟨w', h1, h2, h3⟩ := run_make_own (P := Tryd.prog) W W.heap.size 23 5 i0 _ 1 Tryd.underlying23 hi hz0 hz1 .i64 .i64 c (by rw [hz2]; omega) (by unfold maxLen; omega) (Nat.le_refl _)
  exact ⟨w', h1, h2, ⟨h3.os, h3.tape, h3.output, h3.size, fun k hk => h3.block k hk (by simp)⟩⟩
theorem wpList_append_str (w : World) {ops : Array Oper} {rest : List Oper} {o : Oper} {a : Act} {Q : Exit → Act → World → Prop} (hgd : o.guard = none) (s x : Operand)
    (ho : o.op = .call { callee := .builtin .append, args := #[s, x], argTypes := #[23, 9] }) (B : Nat) (v : Value) (l : List UInt8) (hs : a.eval s = v) (hown : Row w B v l)
    (m : List UInt8) (hx : a.eval x = .string ⟨m.toArray⟩) (hb : l.length + m.length ≤ room) (hB : B ≤ w.heap.size)
    (h : ∀ v' w', Row w' B v' (l ++ m) → Below B w w' → wpList Tryd.prog ops Q rest (a.put o.dst v') w') : wpList Tryd.prog ops Q (o :: rest) a w := by
  obtain ⟨i0, hi, hz0, hz1, hz2⟩ := info_parts info5
  unfold room at hb
  have e : (⟨m.toArray⟩ : ByteArray).size = m.length := by simp [ByteArray.size]
  refine Lib.wpList_append_own_string (P := Tryd.prog) w hgd s x 23 9 ho B 5 i0 Tryd.underlying23 Tryd.underlying9 hi hz0 hz1 hz2 v l.length (bv l) hs hown ⟨m.toArray⟩ hx (by rw [e]; unfold maxLen; omega) (by rw [e]; omega) hB (fun v' w' h1 h2 h3 => h v' w' ?_ ?_)
  · rw [e] at h1
    have e2 : Lib.strCells ⟨m.toArray⟩ = bv m := by simp [Lib.strCells, bv]
    unfold Row; rw [List.length_append, bv_append, ← e2]; exact h1
  · exact ⟨h2.os, h2.tape, h2.output, h2.size, fun k hk => h2.block k (by omega) (fun e => by have := (hown.lt k e.symm).1; omega)⟩
theorem and8 (a n : Nat) (ha : a < 256) (hn : n ≤ 7) : bits .and .u8 (a : Int) ((2 ^ n - 1 : Nat) : Int) = ((a % 2 ^ n : Nat) : Int) := by
  have hp : 2 ^ n ≤ 2 ^ 7 := Nat.pow_le_pow_right (by decide) hn
  have hp1 := Nat.two_pow_pos n
  have h1 : (BitVec.ofInt 8 (a : Int)).toNat = a := by
    rw [BitVec.ofInt_natCast, BitVec.toNat_ofNat]; exact Nat.mod_eq_of_lt (by omega)
  have h2 : (BitVec.ofInt 8 ((2 ^ n - 1 : Nat) : Int)).toNat = 2 ^ n - 1 := by
    rw [BitVec.ofInt_natCast, BitVec.toNat_ofNat]; exact Nat.mod_eq_of_lt (by omega)
  show IntKind.u8.wrap ((BitVec.ofInt 8 (a : Int) &&& BitVec.ofInt 8 ((2 ^ n - 1 : Nat) : Int)).toNat : Int) = _
  rw [BitVec.toNat_and, h1, h2, Nat.and_two_pow_sub_one_eq_mod]
  have hlt := Nat.mod_lt a hp1
  generalize a % 2 ^ n = z at *
  simp [IntKind.wrap, IntKind.bits, IntKind.signed]
  omega
theorem art_any (v : Value) (s : List UInt8) (w : World) (h : Sl w v s) :
    Calls Tryd.prog 9 #[v] w fun e w' => e = .returned (.tuple #[.string ⟨(if s.length = 3072 then art s else []).toArray⟩, .int .i64 (if s.length = 3072 then 0 else 2)]) ∧ Below w.heap.size w w' := by
  by_cases hl : s.length = 3072
  case neg =>
    obtain ⟨p, c, rfl, _⟩ := h.ex
    have i0 : ¬ (s.length : Int) = 3072 := by omega
    simp only [hl, if_false]
    go_enter Tryd.func9, Tryd.ntmps9
    go_wp2
    go_ret2
    exact ⟨rfl, Below.refl _ _⟩
  simp only [hl, if_true]
  obtain ⟨x, c, rfl, hc⟩ : ∃ x c, v = .slice (some x) 3072 c ∧ ∀ k, k < 3072 → w.cell? (x.add k) = some (.int .u8 ((s.getD k 0).toNat : Int)) := by
    obtain ⟨x, c, e, _⟩ := sl_at h 0 (by omega)
    refine ⟨x, c, by rw [e, hl], fun k hk => ?_⟩
    obtain ⟨x', c', e', h'⟩ := sl_at h k (by omega)
    rw [e] at e'
    cases e'
    exact h'
  clear h hl
  obtain ⟨W0, hmk0, hm⟩ := make_row w 6192 (by omega)
  have hmk : (Instr.makeSlice 23 (.int .i64 0) (.int .i64 6192)).run Tryd.prog w = .ok (.slice (some ⟨w.heap.size, 0, none⟩) 0 6192) W0 := hmk0
  clear hmk0
  go_enter Tryd.func9, Tryd.ntmps9
  go_wp2
  go_loopw [4, 13] (fun a i wr => ∃ k : Nat, k ≤ 3072 ∧ i = .int .i64 (k : Int) ∧ Row wr w.heap.size a (artTo s k) ∧ Below w.heap.size w wr) (fun _ i _ => 3072 - (intOf i).toNat)
  case atStart => exact ⟨0, by omega, rfl, hm.1, hm.2⟩
  case round =>
    obtain ⟨k, hk, rfl, hr, hb⟩ := hrel
    by_cases hlt : k < 3072
    · have hc1 := hc k hlt
      have hlb := World.block_lt_of_cell? w _ hc1
      have hc2 : wr.cell? (x.add k) = some (.int .u8 ((s.getD k 0).toNat : Int)) := by rw [hb.cell hlb]; exact hc1
      have i1 : (k : Int) < 3072 := by omega
      obtain ⟨b, hbe⟩ : ∃ b, s.getD k 0 = b := ⟨_, rfl⟩
      rw [hbe] at hc2 hc1
      have hal := artTo_len s k
      by_cases h0 : b.toNat = 0
      · rw [h0] at hc2
        have hpx : px b = [46, 46] := by simp [px, h0]
        have HR := hid (And.intro hr hb)
        clear hr hb hal
        go_wp2_with (first | (at_builtin; refine wpList_append_str _ rfl _ _ rfl w.heap.size _ (artTo s k) rfl HR.out.1 [46, 46] rfl (by rw [artTo_len]; unfold room; simp; omega) HR.out.2.size ?_))
        intro v1 w1 hr1 hg1
        have hb1 := HR.out.2.trans hg1
        clear hg1
        rw [← hpx] at hr1
        clear HR hc2 hpx h0
        by_cases hn : k % 64 = 63
        · have hr3 : Row (w1.alloc (.cells (bv [10]).toArray 5)) w.heap.size v1 (artTo s k ++ px b) := hr1.below ((Below.refl _ _).alloc (Nat.le_refl _) _)
          have hb3 : Below w.heap.size w (w1.alloc (.cells (bv [10]).toArray 5)) := hb1.alloc hb1.size _
          have hs3 := (row_of_alloc w1 w.heap.size hb1.size [10] (by decide)).sl
          have hnl : nl k = [10] := by simp [nl, hn]
          have j1 : (k : Int) % 64 = 63 := by omega
          have j2 : (k : Int).tmod 64 = 63 := by rw [Int.tmod_eq_emod_of_nonneg (by omega)]; exact j1
          have HH := hid (And.intro hr3 (And.intro hb3 hs3))
          clear hr3 hb3 hs3 hr1 hb1
          go_wp2_with (first | (at_builtin; refine wpList_append_bytes _ rfl _ _ rfl w.heap.size _ (artTo s k ++ px b) rfl HH.out.1 _ [10] rfl HH.out.2.2 (by rw [List.length_append, artTo_len, px_len]; unfold room; simp; omega) HH.out.2.1.size ?_))
          intro v2 w2 hr2 hg2
          have hb2 := HH.out.2.1.trans (below_append HH.out.1 hg2 HH.out.2.1.size)
          clear hg2
          rw [← hnl] at hr2
          have HR := hid (And.intro hr2 hb2)
          clear hr2 hb2 hnl
          go_wp2
          go_roundw
          case rel => exact ⟨k + 1, by omega, by go_num, by rw [artTo, hbe, List.append_assoc]; exact HR.out.1, HR.out.2⟩
          case measure => simp [intOf]; omega
        · have hnl : nl k = [] := by simp [nl, hn]
          have j1 : ¬ (k : Int) % 64 = 63 := by omega
          have j2 : ¬ (k : Int).tmod 64 = 63 := by rw [Int.tmod_eq_emod_of_nonneg (by omega)]; exact j1
          have HR := hid (And.intro hr1 hb1)
          clear hr1 hb1
          go_wp2
          go_roundw
          case rel => exact ⟨k + 1, by omega, by go_num, by rw [artTo, hbe, hnl, List.append_nil]; exact HR.out.1, HR.out.2⟩
          case measure => simp [intOf]; omega
      · have hpx : px b = [dg (b.toNat / 16), dg (b.toNat % 16)] := by simp [px, h0]
        have hb8 := b.toNat_lt
        have i2 : ¬ (b.toNat : Int) = 0 := by omega
        have d1 := fun W k => ix_dg W k (b.toNat / 16) (by omega)
        have d2 := fun W k => ix_dg W k (b.toNat % 16) (by omega)
        have a1 : bits .and .u8 (b.toNat : Int) 15 = ((b.toNat % 16 : Nat) : Int) := and8 b.toNat 4 hb8 (by decide)
        have q1 : (b.toNat : Int).tdiv 16 = ((b.toNat / 16 : Nat) : Int) := by rw [Int.tdiv_eq_ediv_of_nonneg (by omega)]; omega
        have q2 : (b.toNat : Int).tmod 16 = ((b.toNat % 16 : Nat) : Int) := by rw [Int.tmod_eq_emod_of_nonneg (by omega)]; omega
        have q3 : (b.toNat : Int) / 16 = ((b.toNat / 16 : Nat) : Int) := by omega
        have q4 : (b.toNat : Int) % 16 = ((b.toNat % 16 : Nat) : Int) := by omega
        obtain ⟨m1, hm1⟩ : ∃ m, b.toNat / 16 = m := ⟨_, rfl⟩
        obtain ⟨m2, hm2⟩ : ∃ m, b.toNat % 16 = m := ⟨_, rfl⟩
        rw [hm1] at d1 q1 q3 hpx
        rw [hm2] at d2 q2 q4 hpx a1
        have l1 : m1 < 16 := by omega
        have l2 : m2 < 16 := by omega
        have u1 : IntKind.u8.wrap (m1 : Int) = m1 := by simp [IntKind.wrap, IntKind.bits, IntKind.signed]; omega
        have u2 : IntKind.u8.wrap (m2 : Int) = m2 := by simp [IntKind.wrap, IntKind.bits, IntKind.signed]; omega
        clear hm1 hm2 hal
        have HR := hid (And.intro hr hb)
        clear hr hb
        go_wp2_with fail
        refine wp_region_held_drew (S := (fun wz : World => True)) (by kernel_rfl) trivial (fun hHeld => ?_)
        have hr5 : Row wr.drew w.heap.size u4 (artTo s k) := HR.out.1
        have hb5 : Below w.heap.size w wr.drew := ⟨HR.out.2.os, HR.out.2.tape, HR.out.2.output, HR.out.2.size, HR.out.2.block⟩
        generalize wr.drew = y0 at *
        clear HR
        refine wpAnyH_take (i := 1) (v := ?_) rfl (by kernel_rfl) (by kernel_rfl) (by kernel_rfl) (fun c a w h => h) (Or.inl ⟨by rfl, ?_⟩) hHeld ?_
        rotate_left
        · (intro w hSw; (try dsimp only at hSw); go_simp; try with_reducible rfl)
        simp only [Act.put, List.getElem_toArray, List.getElem_cons_zero, List.getElem_cons_succ, List.setIfInBounds_toArray, List.set_cons_zero, List.set_cons_succ]
        refine wpAnyH_take (i := 2) (v := ?_) rfl (by kernel_rfl) (by kernel_rfl) (by kernel_rfl) (fun c a w h => h) (Or.inl ⟨by rfl, ?_⟩) hHeld ?_
        rotate_left
        · (intro w hSw; (try dsimp only at hSw); go_simp; try with_reducible rfl)
        simp only [Act.put, List.getElem_toArray, List.getElem_cons_zero, List.getElem_cons_succ, List.setIfInBounds_toArray, List.set_cons_zero, List.set_cons_succ]
        refine wpAnyH_take (i := 3) (v := ?_) rfl (by kernel_rfl) (by kernel_rfl) (by kernel_rfl) (fun c a w h => h) (Or.inl ⟨by rfl, ?_⟩) hHeld ?_
        rotate_left
        · (intro w hSw; (try dsimp only at hSw); go_simp; try with_reducible rfl)
        simp only [Act.put, List.getElem_toArray, List.getElem_cons_zero, List.getElem_cons_succ, List.setIfInBounds_toArray, List.set_cons_zero, List.set_cons_succ]
        refine wpAnyH_take (i := 4) (v := ?_) rfl (by kernel_rfl) (by kernel_rfl) (by kernel_rfl) (fun c a w h => h) (Or.inl ⟨by rfl, ?_⟩) hHeld ?_
        rotate_left
        · (intro w hSw; (try dsimp only at hSw); go_simp; try with_reducible rfl)
        simp only [Act.put, List.getElem_toArray, List.getElem_cons_zero, List.getElem_cons_succ, List.setIfInBounds_toArray, List.set_cons_zero, List.set_cons_succ]
        refine wpAnyH_take (i := 5) (v := ?_) rfl (by kernel_rfl) (by kernel_rfl) (by kernel_rfl) (fun c a w h => h) (Or.inl ⟨by rfl, ?_⟩) hHeld ?_
        rotate_left
        · (intro w hSw; (try dsimp only at hSw); go_simp; try with_reducible rfl)
        simp only [Act.put, List.getElem_toArray, List.getElem_cons_zero, List.getElem_cons_succ, List.setIfInBounds_toArray, List.set_cons_zero, List.set_cons_succ]
        refine wpAnyH_take (i := 6) (v := ?_) rfl (by kernel_rfl) (by kernel_rfl) (by kernel_rfl) (fun c a w h => h) (Or.inl ⟨by rfl, ?_⟩) hHeld ?_
        rotate_left
        · (intro w hSw; (try dsimp only at hSw); go_simp; try with_reducible rfl)
        simp only [Act.put, List.getElem_toArray, List.getElem_cons_zero, List.getElem_cons_succ, List.setIfInBounds_toArray, List.set_cons_zero, List.set_cons_succ]
        refine wpAnyH_take (i := 0) (v := ?_) rfl (by kernel_rfl) (by kernel_rfl) (by kernel_rfl) (fun c a w h => h) (Or.inl ⟨by rfl, ?_⟩) hHeld ?_
        rotate_left
        · (intro w hSw; (try dsimp only at hSw); go_simp; try with_reducible rfl)
        simp only [Act.put, List.getElem_toArray, List.getElem_cons_zero, List.getElem_cons_succ, List.setIfInBounds_toArray, List.set_cons_zero, List.set_cons_succ]
        refine wpAnyH_ready (rs := [7]) (by kernel_rfl) (by simp) ?_
        refine AllReadyH.cons rfl (fun K hK => ?_) AllReadyH.nil
        have hr6 : Row (y0.alloc (.cells (bv [dg m1, dg m2]).toArray 5)) w.heap.size u4 (artTo s k) := hr5.below ((Below.refl _ _).alloc (Nat.le_refl _) _)
        have hb6 : Below w.heap.size w (y0.alloc (.cells (bv [dg m1, dg m2]).toArray 5)) := hb5.alloc hb5.size _
        have hs6 := (row_of_alloc y0 w.heap.size hb5.size [dg m1, dg m2] (by simp [maxLen])).sl
        go_simp
        refine hK.out _ _ trivial (fun hHeld => ?_)
        clear hK K
        try simp only [Act.put, List.getElem_toArray, List.getElem_cons_zero, List.getElem_cons_succ, List.setIfInBounds_toArray, List.set_cons_zero, List.set_cons_succ]
        refine wpAnyH_ready (rs := [8]) (by kernel_rfl) (by simp) ?_
        refine AllReadyH.cons rfl (fun K hK => ?_) AllReadyH.nil
        rw [if_pos (by rfl)]
        refine wp_append_bytes _ _ _ rfl w.heap.size _ (artTo s k) rfl hr6 _ [dg m1, dg m2] rfl hs6 (by rw [artTo_len]; unfold room; simp; omega) hb6.size (fun v1 w1 hr1 hg1 => ?_)
        have hb1 := hb6.trans (below_append hr6 hg1 hb6.size)
        refine hK.out _ _ trivial (fun hHeld => ?_)
        clear hK K
        try simp only [Act.put, List.getElem_toArray, List.getElem_cons_zero, List.getElem_cons_succ, List.setIfInBounds_toArray, List.set_cons_zero, List.set_cons_succ]
        refine wpAnyH_take (i := 9) (v := ?_) rfl (by kernel_rfl) (by kernel_rfl) (by kernel_rfl) (fun c a w h => h) (Or.inl ⟨by rfl, ?_⟩) hHeld ?_
        rotate_left
        · (intro w hSw; (try dsimp only at hSw); go_simp; try with_reducible rfl)
        simp only [Act.put, List.getElem_toArray, List.getElem_cons_zero, List.getElem_cons_succ, List.setIfInBounds_toArray, List.set_cons_zero, List.set_cons_succ]
        refine wpAnyH_done (by kernel_rfl) ?_ _
        clear hg1 hr6 hb6 hs6 hr5 hb5 hHeld
        rw [← hpx] at hr1
        clear hc2 hpx h0 d1 d2 a1 q1 q2 q3 q4 i2 u1 u2
        by_cases hn : k % 64 = 63
        · have hr3 : Row (w1.alloc (.cells (bv [10]).toArray 5)) w.heap.size v1 (artTo s k ++ px b) := hr1.below ((Below.refl _ _).alloc (Nat.le_refl _) _)
          have hb3 : Below w.heap.size w (w1.alloc (.cells (bv [10]).toArray 5)) := hb1.alloc hb1.size _
          have hs3 := (row_of_alloc w1 w.heap.size hb1.size [10] (by decide)).sl
          have hnl : nl k = [10] := by simp [nl, hn]
          have j1 : (k : Int) % 64 = 63 := by omega
          have j2 : (k : Int).tmod 64 = 63 := by rw [Int.tmod_eq_emod_of_nonneg (by omega)]; exact j1
          have HH := hid (And.intro hr3 (And.intro hb3 hs3))
          clear hr3 hb3 hs3 hr1 hb1
          go_wp2_with (first | (at_builtin; refine wpList_append_bytes _ rfl _ _ rfl w.heap.size _ (artTo s k ++ px b) rfl HH.out.1 _ [10] rfl HH.out.2.2 (by rw [List.length_append, artTo_len, px_len]; unfold room; simp; omega) HH.out.2.1.size ?_))
          intro v2 w2 hr2 hg2
          have hb2 := HH.out.2.1.trans (below_append HH.out.1 hg2 HH.out.2.1.size)
          clear hg2
          rw [← hnl] at hr2
          have HR := hid (And.intro hr2 hb2)
          clear hr2 hb2 hnl
          go_wp2
          go_roundw
          case rel => exact ⟨k + 1, by omega, by go_num, by rw [artTo, hbe, List.append_assoc]; exact HR.out.1, HR.out.2⟩
          case measure => simp [intOf]; omega
        · have hnl : nl k = [] := by simp [nl, hn]
          have j1 : ¬ (k : Int) % 64 = 63 := by omega
          have j2 : ¬ (k : Int).tmod 64 = 63 := by rw [Int.tmod_eq_emod_of_nonneg (by omega)]; exact j1
          have HR := hid (And.intro hr1 hb1)
          clear hr1 hb1
          go_wp2
          go_roundw
          case rel => exact ⟨k + 1, by omega, by go_num, by rw [artTo, hbe, hnl, List.append_nil]; exact HR.out.1, HR.out.2⟩
          case measure => simp [intOf]; omega
    · obtain rfl : k = 3072 := by omega
      have hcv := hr.sl.conv (by rw [artTo_len]; decide)
      have HB := hid hb
      clear hr hb
      go_wp2
      go_ret2
      exact ⟨rfl, HB.out⟩
end Go.Proofs.YtlljelfplffglabDoor.H
