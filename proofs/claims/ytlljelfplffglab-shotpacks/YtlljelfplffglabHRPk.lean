import Derived.Test.YtlljelfplffglabHUp
import Derived.BigQuiet
/-! The reference's Pack. -/
namespace Go.Proofs.Ytlljelfplffglab.H
open Go.RowKit
open Go.Proofs
open Go.Proofs.Ytlljelfplffglab.K
set_option linter.unusedVariables false
set_option linter.unusedSimpArgs false
set_option maxHeartbeats 2000000
set_option maxRecDepth 100000
def pkE (s : List UInt8) : List UInt8 := if s.length = 3072 then pk s else []
def pkN (s : List UInt8) : Int := if s.length = 3072 then 0 else 2
theorem sl_all2 {w : World} {v : Value} {s : List UInt8} (h : Sl w v s) (hl : s.length = 3072) : ∃ x c, v = .slice (some x) 3072 c ∧ ∀ k, k < 3072 → w.cell? (x.add k) = some (.int .u8 ((s.getD k 0).toNat : Int)) := by
  obtain ⟨x, c, e, _⟩ := sl_at h 0 (by omega)
  refine ⟨x, c, by rw [e, hl], fun k hk => ?_⟩
  obtain ⟨x', c', e', h'⟩ := sl_at h k (by omega)
  rw [e] at e'
  cases e'
  exact h'
theorem drop_one (s : List UInt8) (k : Nat) (h : k < s.length) : s.drop k = s.getD k 0 :: s.drop (k + 1) := by
  rw [List.drop_eq_getElem_cons h]; simp [h]
theorem get_drop (s : List UInt8) (k m : Nat) (h : k + m < s.length) : (s.drop k)[m]? = some (s.getD (k + m) 0) := by
  rw [List.getElem?_drop, List.getD_eq_getElem?_getD, List.getElem?_eq_getElem h]; rfl
/-- How long the run at k is. -/
def ln (s : List UInt8) (k : Nat) : Nat := lk (s.getD k 0) 255 (s.drop (k + 1))
theorem ln_go (s : List UInt8) (k n : Nat) (h1 : 1 ≤ n) (h : n - 1 ≤ ln s k) (hl : s.length = 3072) : n - 1 < ln s k ↔ n < 256 ∧ k + n < 3072 ∧ s.getD (k + n) 0 = s.getD k 0 := by
  unfold ln at *
  rw [lk_go _ _ _ _ h]
  constructor
  · rintro ⟨a, b⟩
    have hlt : n - 1 < (s.drop (k + 1)).length := (List.getElem?_eq_some_iff.1 b).1
    rw [List.length_drop] at hlt
    rw [get_drop s (k + 1) (n - 1) (by omega), show k + 1 + (n - 1) = k + n by omega] at b
    exact ⟨by omega, by omega, Option.some.inj b⟩
  · rintro ⟨a, b, c⟩
    refine ⟨by omega, ?_⟩
    rw [get_drop s (k + 1) (n - 1) (by omega), show k + 1 + (n - 1) = k + n by omega, c]
theorem ln_le (s : List UInt8) (k : Nat) (hk : k < 3072) (hl : s.length = 3072) : ln s k ≤ 255 ∧ k + 1 + ln s k ≤ 3072 := by
  have h1 := lk_le (s.getD k 0) 255 (s.drop (k + 1))
  have h2 := lk_len (s.getD k 0) 255 (s.drop (k + 1))
  rw [List.length_drop] at h2
  unfold ln
  omega
theorem pk_step (s pre : List UInt8) (k : Nat) (hk : k < s.length) (h : pre ++ pk (s.drop k) = pk s) : (pre ++ [UInt8.ofNat (ln s k), s.getD k 0]) ++ pk (s.drop (k + (ln s k + 1))) = pk s := by
  rw [drop_one s k hk, pk_cons] at h
  rw [← h, List.append_assoc, List.drop_drop, show k + (ln s k + 1) = k + 1 + ln s k by omega]
  rfl
theorem rpack_any (v : Value) (s : List UInt8) (w : World) (h : Sl w v s) :
    Calls Try.prog 7 #[v] w fun e w' => ∃ p c, e = .returned (.tuple #[.slice p (pkE s).length c, .int .i64 (pkN s)]) ∧ Row w' w.heap.size (.slice p (pkE s).length c) (pkE s) ∧ Below w.heap.size w w' := by
  by_cases hl : s.length = 3072
  case neg =>
    obtain ⟨p, c, rfl, _⟩ := h.ex
    have i0 : ¬ (s.length : Int) = 3072 := by omega
    rw [show pkE s = [] by rw [pkE, if_neg hl], show pkN s = 2 by rw [pkN, if_neg hl]]
    go_enter Try.func7, Try.ntmps7
    go_wp2
    go_ret2
    exact ⟨none, 0, rfl, row_nil _ _, Below.refl _ _⟩
  rw [show pkE s = pk s by rw [pkE, if_pos hl], show pkN s = 0 by rw [pkN, if_pos hl]]
  obtain ⟨x, c, rfl, hc⟩ := sl_all2 h hl
  have HL := hid hl
  clear h hl
  go_enter Try.func7, Try.ntmps7
  go_wp2
  go_loopw [4, 5] (fun v i wr => ∃ (pre : List UInt8) (k : Nat), k ≤ 3072 ∧ i = .int .i64 (k : Int) ∧ pre.length ≤ 2 * k ∧ pre ++ pk (s.drop k) = pk s ∧ Row wr w.heap.size v pre ∧ Below w.heap.size w wr) (fun _ i _ => 3072 - (intOf i).toNat)
  case atStart => exact ⟨[], 0, by omega, rfl, by simp, rfl, row_nil _ _, Below.refl _ _⟩
  case round =>
    obtain ⟨pre, k, hk, rfl, hpl, hpk, hr, hb⟩ := hrel
    by_cases hlt : k < 3072
    · have i1 : (k : Int) < 3072 := by omega
      have hll := ln_le s k hlt HL.out
      have hst := pk_step s pre k (by have := HL.out; omega) hpk
      have HGO := hid (ln_go s k)
      obtain ⟨L, hL⟩ : ∃ L, ln s k = L := ⟨_, rfl⟩
      rw [hL] at hll hst HGO
      obtain ⟨X, hX⟩ : ∃ X, s.getD k 0 = X := ⟨_, rfl⟩
      have hc1 := hc k hlt
      rw [hX] at hst HGO hc1
      have hlb := World.block_lt_of_cell? w _ hc1
      obtain ⟨Rn, hRn⟩ : ∃ Rn, UInt8.ofNat L = Rn := ⟨_, rfl⟩
      rw [hRn] at hst
      have hRv : Rn.toNat = L := by rw [← hRn]; exact UInt8.toNat_ofNat_of_lt' (by show _ < 256; omega)
      have HRV := hid hRv
      clear hRv
      have HR0 := hid (And.intro hr hb)
      have HST := hid hst
      have HX := hid hX
      have HPL := hid hpl
      clear hr hb hpk hst hL hX hRn hpl
      go_wp2
      go_loopw [6] (fun i wr => ∃ n : Nat, i = .int .i64 (n : Int) ∧ 1 ≤ n ∧ n - 1 ≤ L ∧ Row wr w.heap.size u4 pre ∧ Below w.heap.size w wr) (fun i _ => 256 - (intOf i).toNat)
      case atStart => exact ⟨1, rfl, by omega, by omega, HR0.out.1, HR0.out.2⟩
      case round =>
        clear HR0
        obtain ⟨n, rfl, hn1, hnL, hr, hb⟩ := hrel
        obtain ⟨o, ho⟩ : ∃ o, k + n = o := ⟨_, rfl⟩
        have y3 : (k : Int) + (n : Int) = (o : Int) := by omega
        have y5 : IntKind.i64.wrap (o : Int) = (o : Int) := by rw [IntKind.wrap_i64]; omega
        have y6 : IntKind.i64.wrap ((n : Int) - 1) = (n : Int) - 1 := by rw [IntKind.wrap_i64]; omega
        have hck : wr.cell? (x.add k) = some (.int .u8 (X.toNat : Int)) := by rw [hb.cell hlb]; exact hc1
        have hgo := HGO.out n hn1 hnL HL.out
        rw [ho] at hgo
        have i2 : (0 : Int) ≤ (o : Int) := by omega
        have hcf : o < 3072 → wr.cell? (x.add o) = some (.int .u8 ((s.getD o 0).toNat : Int)) := fun h => by
          have h1 := hc o h
          rw [hb.cell (World.block_lt_of_cell? w _ h1)]; exact h1
        by_cases hgn : n - 1 < L
        · obtain ⟨g1, g2, g3⟩ := hgo.1 hgn
          have i3 : (o : Int) < 3072 := by omega
          have i4 : (n : Int) < 256 := by omega
          have hco := hcf g2
          rw [g3] at hco
          have HR := hid (And.intro hr hb)
          clear hr hb hgo g3 hcf
          go_wp2_with fail
          go_quiet (fail)
          go_wp2
          go_roundw
          case rel => exact ⟨n + 1, by go_num, by omega, by omega, HR.out.1, ⟨HR.out.2.os, HR.out.2.tape, HR.out.2.output, HR.out.2.size, HR.out.2.block⟩⟩
          case measure => simp [intOf]; omega
        · have hn : n = L + 1 := by omega
          have hw : IntKind.u8.wrap ((n : Int) - 1) = (Rn.toNat : Int) := by rw [HRV.out, hn]; simp [IntKind.wrap, IntKind.bits, IntKind.signed]; omega
          have hno : ¬ (n < 256 ∧ o < 3072 ∧ s.getD o 0 = X) := fun h => hgn (hgo.2 h)
          have HR := hid (And.intro hr (And.intro hb trivial))
          have HP := hid (And.intro (show o ≤ 3072 by omega) HPL.out)
          have HQ := hid (show (pre ++ [Rn, X]) ++ pk (s.drop o) = pk s by have := HST.out; rwa [show k + (L + 1) = o by omega] at this)
          clear hr hb hgo hgn hn
          by_cases c1 : o < 3072
          · have hco := hcf c1
            clear hcf
            have i3 : (o : Int) < 3072 := by omega
            by_cases c2 : s.getD o 0 = X
            · have i4 : decide ((n : Int) < 256) = false := decide_eq_false (fun h => hno ⟨by omega, c1, c2⟩)
              rw [c2] at hco
              clear c2 hno
              go_wp2_with fail
              go_quiet (fail)
              have hr4 : Row (wr.drewN nq) w.heap.size u4 pre := HR.out.1
              have hb4 : Below w.heap.size w (wr.drewN nq) := ⟨HR.out.2.1.os, HR.out.2.1.tape, HR.out.2.1.output, HR.out.2.1.size, HR.out.2.1.block⟩
              have hck4 : (wr.drewN nq).cell? (x.add k) = some (.int .u8 (X.toNat : Int)) := hck
              generalize wr.drewN nq = y0 at *
              have hr6 : Row (y0.alloc (.cells (bv [Rn, X]).toArray 5)) w.heap.size u4 pre := hr4.below ((Below.refl _ _).alloc (Nat.le_refl _) _)
              have hb6 : Below w.heap.size w (y0.alloc (.cells (bv [Rn, X]).toArray 5)) := hb4.alloc hb4.size _
              have hs6 := (row_of_alloc y0 w.heap.size hb4.size [Rn, X] (by simp [maxLen])).sl
              have HH := hid (And.intro hr6 (And.intro hb6 hs6))
              clear hr6 hb6 hs6 hr4 hb4
              go_wp2_with (first | (at_builtin; refine wpList_append_bytes _ rfl _ _ rfl w.heap.size _ pre rfl HH.out.1 _ [Rn, X] rfl HH.out.2.2 (by have := HP.out.2; unfold room; simp; omega) HH.out.2.1.size ?_))
              intro v1 w1 hr1 hg1
              have hb1 := HH.out.2.1.trans (below_append HH.out.1 hg1 HH.out.2.1.size)
              have HE := hid (And.intro hr1 hb1)
              clear hr1 hg1 hb1 HH hck4
              go_wp2
              go_roundw
              case rel => exact ⟨pre ++ [Rn, X], o, HP.out.1, by go_num, by have := HP.out.2; have := ho; simp; omega, HQ.out, HE.out.1, HE.out.2⟩
              case measure => simp [intOf]; omega
            · obtain ⟨Y, hY⟩ : ∃ Y, s.getD o 0 = Y := ⟨_, rfl⟩
              rw [hY] at hco c2
              have i4 : ((Y.toNat : Int) == (X.toNat : Int)) = false := by
                have : ¬ (Y.toNat : Int) = (X.toNat : Int) := fun h => c2 (UInt8.toNat_inj.1 (by omega))
                simpa using this
              clear c2 hno hY
              go_wp2_with fail
              go_quiet (fail)
              have hr4 : Row (wr.drewN nq) w.heap.size u4 pre := HR.out.1
              have hb4 : Below w.heap.size w (wr.drewN nq) := ⟨HR.out.2.1.os, HR.out.2.1.tape, HR.out.2.1.output, HR.out.2.1.size, HR.out.2.1.block⟩
              have hck4 : (wr.drewN nq).cell? (x.add k) = some (.int .u8 (X.toNat : Int)) := hck
              generalize wr.drewN nq = y0 at *
              have hr6 : Row (y0.alloc (.cells (bv [Rn, X]).toArray 5)) w.heap.size u4 pre := hr4.below ((Below.refl _ _).alloc (Nat.le_refl _) _)
              have hb6 : Below w.heap.size w (y0.alloc (.cells (bv [Rn, X]).toArray 5)) := hb4.alloc hb4.size _
              have hs6 := (row_of_alloc y0 w.heap.size hb4.size [Rn, X] (by simp [maxLen])).sl
              have HH := hid (And.intro hr6 (And.intro hb6 hs6))
              clear hr6 hb6 hs6 hr4 hb4
              go_wp2_with (first | (at_builtin; refine wpList_append_bytes _ rfl _ _ rfl w.heap.size _ pre rfl HH.out.1 _ [Rn, X] rfl HH.out.2.2 (by have := HP.out.2; unfold room; simp; omega) HH.out.2.1.size ?_))
              intro v1 w1 hr1 hg1
              have hb1 := HH.out.2.1.trans (below_append HH.out.1 hg1 HH.out.2.1.size)
              have HE := hid (And.intro hr1 hb1)
              clear hr1 hg1 hb1 HH hck4
              go_wp2
              go_roundw
              case rel => exact ⟨pre ++ [Rn, X], o, HP.out.1, by go_num, by have := HP.out.2; have := ho; simp; omega, HQ.out, HE.out.1, HE.out.2⟩
              case measure => simp [intOf]; omega
          · have i3 : decide ((o : Int) < 3072) = false := decide_eq_false (by omega)
            clear hno hcf
            go_wp2_with fail
            go_quiet (fail)
            have hr4 : Row (wr.drewN nq) w.heap.size u4 pre := HR.out.1
            have hb4 : Below w.heap.size w (wr.drewN nq) := ⟨HR.out.2.1.os, HR.out.2.1.tape, HR.out.2.1.output, HR.out.2.1.size, HR.out.2.1.block⟩
            have hck4 : (wr.drewN nq).cell? (x.add k) = some (.int .u8 (X.toNat : Int)) := hck
            generalize wr.drewN nq = y0 at *
            have hr6 : Row (y0.alloc (.cells (bv [Rn, X]).toArray 5)) w.heap.size u4 pre := hr4.below ((Below.refl _ _).alloc (Nat.le_refl _) _)
            have hb6 : Below w.heap.size w (y0.alloc (.cells (bv [Rn, X]).toArray 5)) := hb4.alloc hb4.size _
            have hs6 := (row_of_alloc y0 w.heap.size hb4.size [Rn, X] (by simp [maxLen])).sl
            have HH := hid (And.intro hr6 (And.intro hb6 hs6))
            clear hr6 hb6 hs6 hr4 hb4
            go_wp2_with (first | (at_builtin; refine wpList_append_bytes _ rfl _ _ rfl w.heap.size _ pre rfl HH.out.1 _ [Rn, X] rfl HH.out.2.2 (by have := HP.out.2; unfold room; simp; omega) HH.out.2.1.size ?_))
            intro v1 w1 hr1 hg1
            have hb1 := HH.out.2.1.trans (below_append HH.out.1 hg1 HH.out.2.1.size)
            have HE := hid (And.intro hr1 hb1)
            clear hr1 hg1 hb1 HH hck4
            go_wp2
            go_roundw
            case rel => exact ⟨pre ++ [Rn, X], o, HP.out.1, by go_num, by have := HP.out.2; have := ho; simp; omega, HQ.out, HE.out.1, HE.out.2⟩
            case measure => simp [intOf]; omega
    · obtain rfl : k = 3072 := by omega
      have e1 : pre = pk s := by
        rw [List.drop_of_length_le (by have := HL.out; omega), pk_nil, List.append_nil] at hpk; exact hpk
      subst e1
      obtain ⟨pv, cv, rfl⟩ := own_val hr
      have HE := hid (And.intro hr hb)
      clear hr hb hpk hpl
      go_wp2
      go_ret2
      exact ⟨pv, cv, rfl, HE.out.1, HE.out.2⟩
end Go.Proofs.Ytlljelfplffglab.H
