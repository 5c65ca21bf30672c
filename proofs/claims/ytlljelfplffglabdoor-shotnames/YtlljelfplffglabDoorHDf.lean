import Derived.Test.YtlljelfplffglabDoorHScr
import Derived.Test.YtlljelfplffglabDoorSRow
/-! Diff, both. -/
namespace Go.Proofs.YtlljelfplffglabDoor.H
open Go.RowKit
open Go.Proofs
open Go.Proofs.YtlljelfplffglabDoor.K
set_option linter.unusedVariables false
set_option linter.unusedSimpArgs false
set_option maxHeartbeats 2000000
set_option maxRecDepth 100000
/-- A change's cells. -/
def eC (c : Ch) : List Value := [.int .i64 c.x, .int .i64 c.y, .int .u8 (c.o.toNat : Int), .int .u8 (c.n.toNat : Int)]
theorem hC (c : Ch) : (eC c).length = 4 := rfl
theorem oneC (l : List Ch) : ∀ u ∈ S.en eC l, u.oneCell' = true := by
  intro u hu
  simp only [S.en, List.mem_flatMap] at hu
  obtain ⟨c, _, hc⟩ := hu
  simp [eC] at hc
  rcases hc with rfl | rfl | rfl | rfl <;> rfl
def zC : Value := .agg #[.int .i64 0, .int .i64 0, .int .u8 0, .int .u8 0]
theorem infoS : (Tryd.prog.info? 32).map (fun i => (i.zero, i.size, i.bytes)) = some (some zC, 4, 24) := by kernel_rfl
theorem cs_one (W : World) (c : Ch) (t : TypeId) : S.Cs (W.alloc (.cells (eC c).toArray t)) (.slice (some ⟨W.heap.size, 0, none⟩) 1 1) 4 1 (eC c) := by
  refine .inr ⟨⟨W.heap.size, 0, none⟩, 1, rfl, rfl, fun j v hj => ?_, fun v hv => ?_⟩
  · rw [Addr.add_lit, Nat.zero_add]
    exact S.cell_of _ _ _ (eC c) t v (heap_alloc_new W _) hj
  · have := oneC [c] v
    simp only [S.en, List.flatMap_cons, List.flatMap_nil, List.append_nil] at this
    exact this hv
def bothS (a b : List UInt8) : Bool := decide (a.length = 3072) && decide (b.length = 3072)
def dfE (a b : List UInt8) : List Ch := if bothS a b then df a b else []
def dfN (a b : List UInt8) : Int := if bothS a b then 0 else 2
theorem dfE_len (a b : List UInt8) : (dfE a b).length ≤ 3072 := by
  unfold dfE; split
  · exact dfTo_len a b 3072
  · simp
theorem bothS_is (a b : List UInt8) : bothS a b = true ↔ a.length = 3072 ∧ b.length = 3072 := by unfold bothS; rw [Bool.and_eq_true, decide_eq_true_iff, decide_eq_true_iff]
theorem sl_all {w : World} {v : Value} {s : List UInt8} (h : Sl w v s) (hl : s.length = 3072) : ∃ x c, v = .slice (some x) 3072 c ∧ ∀ k, k < 3072 → w.cell? (x.add k) = some (.int .u8 ((s.getD k 0).toNat : Int)) := by
  obtain ⟨x, c, e, _⟩ := sl_at h 0 (by omega)
  refine ⟨x, c, by rw [e, hl], fun k hk => ?_⟩
  obtain ⟨x', c', e', h'⟩ := sl_at h k (by omega)
  rw [e] at e'
  cases e'
  exact h'
theorem diff_any (va vb : Value) (a b : List UInt8) (w : World) (ha : Sl w va a) (hb : Sl w vb b) :
    Calls Tryd.prog 7 #[va, vb] w fun e w' => ∃ p c, e = .returned (.tuple #[.slice p (dfE a b).length c, .int .i64 (dfN a b)]) ∧ w'.ownsRow w.heap.size 32 4 (.slice p (dfE a b).length c) (dfE a b).length (S.en eC (dfE a b)) ∧ Below w.heap.size w w' := by
  by_cases hla : a.length = 3072
  case neg =>
    obtain ⟨pa, ca, rfl, _⟩ := ha.ex
    obtain ⟨pb, cb, rfl, _⟩ := hb.ex
    have e1 : bothS a b = false := Bool.eq_false_iff.2 (fun h => hla ((bothS_is a b).1 h).1)
    rw [show dfE a b = [] by rw [dfE, e1]; rfl, show dfN a b = 2 by rw [dfN, e1]; rfl]
    have i0 : ¬ (a.length : Int) = 3072 := by omega
    go_enter Tryd.func7, Tryd.ntmps7
    go_wp2
    go_ret2
    exact ⟨none, 0, rfl, World.ownsRow_nil _ _ _ _, Below.refl _ _⟩
  by_cases hlb : b.length = 3072
  case neg =>
    obtain ⟨pa, ca, rfl, _⟩ := ha.ex
    obtain ⟨pb, cb, rfl, _⟩ := hb.ex
    have e1 : bothS a b = false := Bool.eq_false_iff.2 (fun h => hlb ((bothS_is a b).1 h).2)
    rw [show dfE a b = [] by rw [dfE, e1]; rfl, show dfN a b = 2 by rw [dfN, e1]; rfl]
    have i0 : ¬ (b.length : Int) = 3072 := by omega
    have i1 : (a.length : Int) = 3072 := by omega
    clear hla
    go_enter Tryd.func7, Tryd.ntmps7
    go_wp2
    go_ret2
    exact ⟨none, 0, rfl, World.ownsRow_nil _ _ _ _, Below.refl _ _⟩
  have e1 : bothS a b = true := (bothS_is a b).2 ⟨hla, hlb⟩
  rw [show dfE a b = dfTo a b 3072 by rw [dfE, e1]; rfl, show dfN a b = 0 by rw [dfN, e1]; rfl]
  obtain ⟨xa, ca, rfl, hca⟩ := sl_all ha hla
  obtain ⟨xb, cb, rfl, hcb⟩ := sl_all hb hlb
  clear ha hb hla hlb e1
  go_enter Tryd.func7, Tryd.ntmps7
  go_wp2
  go_loopw [6, 16] (fun v i wr => ∃ k : Nat, k ≤ 3072 ∧ i = .int .i64 (k : Int) ∧ wr.ownsRow w.heap.size 32 4 v (dfTo a b k).length (S.en eC (dfTo a b k)) ∧ Below w.heap.size w wr) (fun _ i _ => 3072 - (intOf i).toNat)
  case atStart => exact ⟨0, by omega, rfl, World.ownsRow_nil _ _ _ _, Below.refl _ _⟩
  case round =>
    obtain ⟨k, hk, rfl, hr, hb⟩ := hrel
    by_cases hlt : k < 3072
    · have hlt : k < 3072 := by omega
      have ca1 := hca k hlt
      have cb1 := hcb k hlt
      have hla := World.block_lt_of_cell? w _ ca1
      have hlb := World.block_lt_of_cell? w _ cb1
      have ca2 : wr.cell? (xa.add k) = some (.int .u8 ((a.getD k 0).toNat : Int)) := by rw [hb.cell hla]; exact ca1
      have cb2 : wr.cell? (xb.add k) = some (.int .u8 ((b.getD k 0).toNat : Int)) := by rw [hb.cell hlb]; exact cb1
      have hdl := dfTo_len a b k
      have hst : dfTo a b (k + 1) = dfTo a b k ++ (if a.getD k 0 = b.getD k 0 then [] else [⟨((k % 64 : Nat) : Int), ((k / 64 : Nat) : Int), a.getD k 0, b.getD k 0⟩]) := rfl
      generalize a.getD k 0 = A at *
      generalize b.getD k 0 = B at *
      have i1 : (k : Int) < 3072 := by omega
      by_cases he : A = B
      · subst he
        rw [if_pos rfl, List.append_nil] at hst
        have HR := hid (And.intro hr (And.intro hb hst))
        clear hr hb hst ca1 cb1
        go_wp2_with fail
        go_quiet (fail)
        go_wp2
        go_roundw
        case rel => exact ⟨k + 1, by omega, by go_num, by rw [HR.out.2.2]; exact HR.out.1, ⟨HR.out.2.1.os, HR.out.2.1.tape, HR.out.2.1.output, HR.out.2.1.size, HR.out.2.1.block⟩⟩
        case measure => simp [intOf]; omega
      · rw [if_neg he] at hst
        have he3 : ¬ (A.toNat : Int) = (B.toNat : Int) := fun h => he (UInt8.toNat_inj.1 (by omega))
        have he4 : ((A.toNat : Int) == (B.toNat : Int)) = false := by simpa using he3
        obtain ⟨C, hC'⟩ : ∃ C : Ch, (⟨((k % 64 : Nat) : Int), ((k / 64 : Nat) : Int), A, B⟩ : Ch) = C := ⟨_, rfl⟩
        have hCe : eC C = [.int .i64 ((k % 64 : Nat) : Int), .int .i64 ((k / 64 : Nat) : Int), .int .u8 (A.toNat : Int), .int .u8 (B.toNat : Int)] := by rw [← hC']; rfl
        rw [hC'] at hst
        have q1 : (k : Int) % 64 = ((k % 64 : Nat) : Int) := by omega
        have q2 : (k : Int) / 64 = ((k / 64 : Nat) : Int) := by omega
        have q3 : (k : Int).tmod 64 = ((k % 64 : Nat) : Int) := by rw [Int.tmod_eq_emod_of_nonneg (by omega)]; omega
        have q4 : (k : Int).tdiv 64 = ((k / 64 : Nat) : Int) := by rw [Int.tdiv_eq_ediv_of_nonneg (by omega)]; omega
        have q5 : IntKind.i64.wrap ((k / 64 : Nat) : Int) = ((k / 64 : Nat) : Int) := by rw [IntKind.wrap_i64]; omega
        have q6 : IntKind.i64.wrap ((k % 64 : Nat) : Int) = ((k % 64 : Nat) : Int) := by rw [IntKind.wrap_i64]; omega
        generalize ((k % 64 : Nat) : Int) = xq at *
        generalize ((k / 64 : Nat) : Int) = yq at *
        have HR := hid (And.intro hr (And.intro hb hst))
        clear hr hb hst hC'
        go_wp2_with fail
        go_quiet (fail)
        go_wp2_with fail
        have hr4 : (wr.drewN nq).drew.ownsRow w.heap.size 32 4 u6 (dfTo a b k).length (S.en eC (dfTo a b k)) := HR.out.1
        have hb4 : Below w.heap.size w (wr.drewN nq).drew := ⟨HR.out.2.1.os, HR.out.2.1.tape, HR.out.2.1.output, HR.out.2.1.size, HR.out.2.1.block⟩
        have hd1 : (wr.drewN nq).drew.cell? (xa.add k) = some (.int .u8 (A.toNat : Int)) := ca2
        have hd2 : (wr.drewN nq).drew.cell? (xb.add k) = some (.int .u8 (B.toNat : Int)) := cb2
        refine wp_region_held_drew (S := (fun wz : World => wz.cell? (xa.add k) = some (.int .u8 (A.toNat : Int)) ∧ wz.cell? (xb.add k) = some (.int .u8 (B.toNat : Int)))) (by kernel_rfl) ⟨hd1, hd2⟩ (fun hHeld => ?_)
        generalize (wr.drewN nq).drew = y0 at *
        refine wpAnyH_take (i := 1) (v := ?_) rfl (by kernel_rfl) (by kernel_rfl) (by kernel_rfl) (fun c a w h => h) (Or.inl ⟨by rfl, ?_⟩) hHeld ?_
        rotate_left
        · (intro w hSw; (try dsimp only at hSw); go_simp; try with_reducible rfl)
        simp only [Act.put, List.getElem_toArray, List.getElem_cons_zero, List.getElem_cons_succ, List.setIfInBounds_toArray, List.set_cons_zero, List.set_cons_succ]
        refine wpAnyH_take (i := 2) (v := ?_) rfl (by kernel_rfl) (by kernel_rfl) (by kernel_rfl) (fun c a w h => h) (Or.inl ⟨by rfl, ?_⟩) hHeld ?_
        rotate_left
        · (intro w hSw; (try dsimp only at hSw); go_simp; try with_reducible rfl)
        simp only [Act.put, List.getElem_toArray, List.getElem_cons_zero, List.getElem_cons_succ, List.setIfInBounds_toArray, List.set_cons_zero, List.set_cons_succ]
        refine wpAnyH_take (i := 3) (v := ?_) rfl (by kernel_rfl) (by kernel_rfl) (by kernel_rfl) (fun c a w h => h) (Or.inl ⟨by rfl, ?_⟩) hHeld ?_
        rotate_left
        · (intro w hSw; (try dsimp only at hSw); go_simp; try with_reducible rfl)
        simp only [Act.put, List.getElem_toArray, List.getElem_cons_zero, List.getElem_cons_succ, List.setIfInBounds_toArray, List.set_cons_zero, List.set_cons_succ]
        refine wpAnyH_take (i := 4) (v := ?_) rfl (by kernel_rfl) (by kernel_rfl) (by kernel_rfl) (fun c a w h => h) (Or.inl ⟨by rfl, ?_⟩) hHeld ?_
        rotate_left
        · (intro w hSw; (try dsimp only at hSw); go_simp; try with_reducible rfl)
        simp only [Act.put, List.getElem_toArray, List.getElem_cons_zero, List.getElem_cons_succ, List.setIfInBounds_toArray, List.set_cons_zero, List.set_cons_succ]
        refine wpAnyH_take (i := 5) (v := ?_) rfl (by kernel_rfl) (by kernel_rfl) (by kernel_rfl) (fun c a w h => h) (Or.inl ⟨by rfl, ?_⟩) hHeld ?_
        rotate_left
        · (intro w hSw; (try dsimp only at hSw); go_simp; try with_reducible rfl)
        simp only [Act.put, List.getElem_toArray, List.getElem_cons_zero, List.getElem_cons_succ, List.setIfInBounds_toArray, List.set_cons_zero, List.set_cons_succ]
        refine wpAnyH_take (i := 6) (v := ?_) rfl (by kernel_rfl) (by kernel_rfl) (by kernel_rfl) (fun c a w h => h) (Or.inl ⟨by rfl, ?_⟩) hHeld ?_
        rotate_left
        · (intro w hSw; (try dsimp only at hSw); go_simp; try with_reducible rfl)
        simp only [Act.put, List.getElem_toArray, List.getElem_cons_zero, List.getElem_cons_succ, List.setIfInBounds_toArray, List.set_cons_zero, List.set_cons_succ]
        refine wpAnyH_take (i := 7) (v := ?_) rfl (by kernel_rfl) (by kernel_rfl) (by kernel_rfl) (fun c a w h => h) (Or.inl ⟨by rfl, ?_⟩) hHeld ?_
        rotate_left
        · (intro w hSw; (try dsimp only at hSw); go_simp; try with_reducible rfl)
        simp only [Act.put, List.getElem_toArray, List.getElem_cons_zero, List.getElem_cons_succ, List.setIfInBounds_toArray, List.set_cons_zero, List.set_cons_succ]
        refine wpAnyH_take (i := 8) (v := ?_) rfl (by kernel_rfl) (by kernel_rfl) (by kernel_rfl) (fun c a w h => h) (Or.inl ⟨by rfl, ?_⟩) hHeld ?_
        rotate_left
        · (intro w hSw; (try dsimp only at hSw); go_simp; try with_reducible rfl)
        simp only [Act.put, List.getElem_toArray, List.getElem_cons_zero, List.getElem_cons_succ, List.setIfInBounds_toArray, List.set_cons_zero, List.set_cons_succ]
        refine wpAnyH_take (i := 9) (v := ?_) rfl (by kernel_rfl) (by kernel_rfl) (by kernel_rfl) (fun c a w h => h) (Or.inl ⟨by rfl, ?_⟩) hHeld ?_
        rotate_left
        · (intro w hSw; (try dsimp only at hSw); go_simp; try with_reducible rfl)
        simp only [Act.put, List.getElem_toArray, List.getElem_cons_zero, List.getElem_cons_succ, List.setIfInBounds_toArray, List.set_cons_zero, List.set_cons_succ]
        refine wpAnyH_take (i := 10) (v := ?_) rfl (by kernel_rfl) (by kernel_rfl) (by kernel_rfl) (fun c a w h => h) (Or.inl ⟨by rfl, ?_⟩) hHeld ?_
        rotate_left
        · (intro w hSw; (try dsimp only at hSw); go_simp; try with_reducible rfl)
        simp only [Act.put, List.getElem_toArray, List.getElem_cons_zero, List.getElem_cons_succ, List.setIfInBounds_toArray, List.set_cons_zero, List.set_cons_succ]
        refine wpAnyH_take (i := 11) (v := ?_) rfl (by kernel_rfl) (by kernel_rfl) (by kernel_rfl) (fun c a w h => h) (Or.inl ⟨by rfl, ?_⟩) hHeld ?_
        rotate_left
        · (intro w hSw; (try dsimp only at hSw); go_simp; try with_reducible rfl)
        simp only [Act.put, List.getElem_toArray, List.getElem_cons_zero, List.getElem_cons_succ, List.setIfInBounds_toArray, List.set_cons_zero, List.set_cons_succ]
        refine wpAnyH_take (i := 12) (v := ?_) rfl (by kernel_rfl) (by kernel_rfl) (by kernel_rfl) (fun c a w h => h) (Or.inl ⟨by rfl, ?_⟩) hHeld ?_
        rotate_left
        · (intro w hSw; (try dsimp only at hSw); go_simp; try with_reducible rfl)
        simp only [Act.put, List.getElem_toArray, List.getElem_cons_zero, List.getElem_cons_succ, List.setIfInBounds_toArray, List.set_cons_zero, List.set_cons_succ]
        refine wpAnyH_take (i := 0) (v := ?_) rfl (by kernel_rfl) (by kernel_rfl) (by kernel_rfl) (fun c a w h => h) (Or.inl ⟨by rfl, ?_⟩) hHeld ?_
        rotate_left
        · (intro w hSw; (try dsimp only at hSw); go_simp; try with_reducible rfl)
        simp only [Act.put, List.getElem_toArray, List.getElem_cons_zero, List.getElem_cons_succ, List.setIfInBounds_toArray, List.set_cons_zero, List.set_cons_succ]
        refine wpAnyH_take (i := 13) (v := ?_) rfl (by kernel_rfl) (by kernel_rfl) (by kernel_rfl) (fun c a w h => h) (Or.inl ⟨by rfl, ?_⟩) hHeld ?_
        rotate_left
        · (intro w hSw; (try dsimp only at hSw); go_simp; try with_reducible rfl)
        simp only [Act.put, List.getElem_toArray, List.getElem_cons_zero, List.getElem_cons_succ, List.setIfInBounds_toArray, List.set_cons_zero, List.set_cons_succ]
        have hr6 : (y0.alloc (.cells #[.int .i64 xq, .int .i64 yq, .int .u8 (A.toNat : Int), .int .u8 (B.toNat : Int)] 32)).ownsRow w.heap.size 32 4 u6 (dfTo a b k).length (S.en eC (dfTo a b k)) := S.own_kept hr4 (fun g _ hg => Below.heap_alloc _ _ _ hg)
        have hb6 : Below w.heap.size w (y0.alloc (.cells #[.int .i64 xq, .int .i64 yq, .int .u8 (A.toNat : Int), .int .u8 (B.toNat : Int)] 32)) := hb4.alloc hb4.size _
        have hs6 := cs_one y0 C 32
        rw [hCe] at hs6
        refine wpAnyH_ready (rs := [14]) (by kernel_rfl) (by simp) ?_
        refine AllReadyH.cons rfl (fun K hK => ?_) AllReadyH.nil
        go_simp
        refine hK.out _ _ ⟨(hb6.cell hla).trans ca1, (hb6.cell hlb).trans cb1⟩ (fun hHeld => ?_)
        clear hK K
        try simp only [Act.put, List.getElem_toArray, List.getElem_cons_zero, List.getElem_cons_succ, List.setIfInBounds_toArray, List.set_cons_zero, List.set_cons_succ]
        refine wpAnyH_ready (rs := [15]) (by kernel_rfl) (by simp) ?_
        refine AllReadyH.cons rfl (fun K hK => ?_) AllReadyH.nil
        rw [if_pos (by rfl)]
        refine S.wp_append_row _ _ _ 27 32 zC 4 24 Tryd.underlying27 infoS rfl (by decide) rfl w.heap.size _ (dfTo a b k).length (S.en eC (dfTo a b k)) rfl hr6 _ 1 _ rfl hs6 (by unfold S.room; omega) (by unfold maxLen; omega) hb6.size (fun v1 w1 hr1 hg1 => ?_)
        have hb1 : Below w.heap.size w w1 := hb6.trans (hg1.below (fun g e => (hr6.lt g e).1) hb6.size)
        refine hK.out _ _ ⟨(hb1.cell hla).trans ca1, (hb1.cell hlb).trans cb1⟩ (fun hHeld => ?_)
        clear hK K
        try simp only [Act.put, List.getElem_toArray, List.getElem_cons_zero, List.getElem_cons_succ, List.setIfInBounds_toArray, List.set_cons_zero, List.set_cons_succ]
        refine wpAnyH_take (i := 16) (v := ?_) rfl (by kernel_rfl) (by kernel_rfl) (by kernel_rfl) (fun c a w h => h) (Or.inl ⟨by rfl, ?_⟩) hHeld ?_
        rotate_left
        · (intro w hSw; (try dsimp only at hSw); go_simp; try with_reducible rfl)
        simp only [Act.put, List.getElem_toArray, List.getElem_cons_zero, List.getElem_cons_succ, List.setIfInBounds_toArray, List.set_cons_zero, List.set_cons_succ]
        refine wpAnyH_done (by kernel_rfl) ?_ _
        have hfin : w1.ownsRow w.heap.size 32 4 v1 (dfTo a b (k + 1)).length (S.en eC (dfTo a b (k + 1))) := by
          rw [HR.out.2.2, S.en_append, List.length_append]
          have e : S.en eC [C] = eC C := by simp [S.en]
          rw [e, hCe]
          exact hr1
        have HE := hid (And.intro hfin hb1)
        clear hHeld hr6 hb6 hs6 hr4 hb4 hr1 hb1 hg1 hfin ca1 cb1 ca2 cb2 hd1 hd2
        go_wp2
        go_roundw
        case rel => exact ⟨k + 1, by omega, by go_num, HE.out.1, HE.out.2⟩
        case measure => simp [intOf]; omega
    · obtain rfl : k = 3072 := by omega
      obtain ⟨pv, cv, rfl⟩ := own_val hr
      have HE := hid (And.intro hr hb)
      clear hr hb
      go_wp2
      go_ret2
      exact ⟨pv, cv, rfl, HE.out.1, HE.out.2⟩
end Go.Proofs.YtlljelfplffglabDoor.H
