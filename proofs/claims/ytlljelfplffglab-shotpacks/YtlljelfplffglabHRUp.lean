import Derived.Test.YtlljelfplffglabHRPk
/-! The reference's Unpack. -/
namespace Go.Proofs.Ytlljelfplffglab.H
open Go.RowKit
open Go.Proofs
open Go.Proofs.Ytlljelfplffglab.K
set_option linter.unusedVariables false
set_option linter.unusedSimpArgs false
set_option maxHeartbeats 2000000
set_option maxRecDepth 100000
theorem up_two (b : List UInt8) (j : Nat) (h : 2 * j + 1 < b.length) : up (b.drop (2 * j)) = List.replicate ((b.getD (2 * j) 0).toNat + 1) (b.getD (2 * j + 1) 0) ++ up (b.drop (2 * (j + 1))) := by
  rw [drop_one b (2 * j) (by omega), drop_one b (2 * j + 1) h, up]
  rfl
theorem up_end (b : List UInt8) (j : Nat) (h : ¬ 2 * j + 1 < b.length) : up (b.drop (2 * j)) = [] := by
  have : (b.drop (2 * j)).length ≤ 1 := by rw [List.length_drop]; omega
  match hd : b.drop (2 * j) with
  | [] => rfl
  | [_] => rfl
  | _ :: _ :: _ => rw [hd] at this; simp at this
/-- What the bytes' screen comes to. -/
theorem un_of (b S : List UInt8) (h : S = up b ∨ 3072 < S.length ∧ S.length ≤ (up b).length) :
    (S.length = 3072 ∧ pk S = b → unL b = S ∧ unE b = 0) ∧ (¬ (S.length = 3072 ∧ pk S = b) → unL b = [] ∧ unE b = 2) := by
  constructor
  · rintro ⟨h1, h2⟩
    rcases h with h | h
    · have : un b = some S := by unfold un; rw [← h, if_pos ⟨h1, h2⟩]
      exact ⟨by rw [unL, this]; rfl, by rw [unE, this]; rfl⟩
    · omega
  · intro hn
    have : un b = none := by
      unfold un
      rcases h with h | h
      · rw [← h, if_neg hn]
      · rw [if_neg (fun k => by have := k.1; omega)]
    exact ⟨by rw [unL, this]; rfl, by rw [unE, this]; rfl⟩
theorem str_inj2 {a b : ByteArray} (h : a.toList = b.toList) : a = b := by
  rw [ByteArray.toList_eq, ByteArray.toList_eq] at h
  cases a; cases b
  simp only [ByteArray.mk.injEq]
  exact Array.toList_inj.1 h
theorem sl_get {w : World} {p : Option Addr} {n c : Nat} {b : List UInt8} (h : Sl w (.slice p n c) b) (k : Nat) (hk : k < b.length) : ∃ x, p = some x ∧ w.cell? (x.add k) = some (.int .u8 ((b.getD k 0).toNat : Int)) := by
  obtain ⟨x, c', e, h'⟩ := sl_at h k hk
  simp only [Value.slice.injEq] at e
  exact ⟨x, e.1, h'⟩
theorem runpack_any (v : Value) (b : List UInt8) (hlb : b.length ≤ room) (w : World) (h : Sl w v b) :
    Calls Try.prog 9 #[v] w fun e w' => ∃ p c, e = .returned (.tuple #[.slice p (unL b).length c, .int .i64 (unE b)]) ∧ Row w' w.heap.size (.slice p (unL b).length c) (unL b) ∧ Below w.heap.size w w' := by
  obtain ⟨p, c, rfl, _⟩ := h.ex
  have HS := hid h
  have hm : b.length ≤ maxLen := by unfold maxLen; unfold room at hlb; omega
  unfold room at hlb
  clear h
  go_enter Try.func9, Try.ntmps9
  go_wp2
  go_loopw [4, 5] (fun v i wr => ∃ (S : List UInt8) (j : Nat), 2 * j ≤ b.length ∧ i = .int .i64 ((2 * j : Nat) : Int) ∧ S.length ≤ 3328 ∧ S ++ up (b.drop (2 * j)) = up b ∧ Row wr w.heap.size v S ∧ Below w.heap.size w wr) (fun _ i _ => b.length - (intOf i).toNat)
  case atStart => exact ⟨[], 0, by omega, rfl, by simp, rfl, row_nil _ _, Below.refl _ _⟩
  case round =>
    obtain ⟨S, j, hj, rfl, hSl, hup, hr, hb⟩ := hrel
    obtain ⟨pS, cS, rfl⟩ := own_val hr
    by_cases hgo : 2 * j + 1 < b.length ∧ S.length ≤ 3072
    · obtain ⟨g1, g2⟩ := hgo
      obtain ⟨x, rfl, hx0⟩ := sl_get HS.out (2 * j) (by omega)
      obtain ⟨x', hx', hx1⟩ := sl_get HS.out (2 * j + 1) g1
      obtain rfl : x = x' := Option.some.inj hx'
      rw [up_two b j g1] at hup
      obtain ⟨X, hX⟩ : ∃ X, b.getD (2 * j) 0 = X := ⟨_, rfl⟩
      obtain ⟨Y, hY⟩ : ∃ Y, b.getD (2 * j + 1) 0 = Y := ⟨_, rfl⟩
      rw [hX] at hx0 hup
      rw [hY] at hx1 hup
      have hlt0 := World.block_lt_of_cell? w _ hx0
      have hlt1 := World.block_lt_of_cell? w _ hx1
      have hX8 := X.toNat_lt
      obtain ⟨o, ho⟩ : ∃ o, 2 * j = o := ⟨_, rfl⟩
      rw [ho] at hx0 hx1 g1 hlt0 hlt1 hj ⊢
      have HO := hid ho
      have HU := hid hup
      have HSL := hid hSl
      obtain ⟨o1, ho1⟩ : ∃ o1, o + 1 = o1 := ⟨_, rfl⟩
      rw [ho1] at hx1 hlt1 g1
      have y3 : (o : Int) + 1 = (o1 : Int) := by omega
      have y5 : IntKind.i64.wrap (o1 : Int) = (o1 : Int) := by rw [IntKind.wrap_i64]; omega
      have i1 : (o1 : Int) < (b.length : Int) := by omega
      have i2 : (S.length : Int) ≤ 3072 := by omega
      have i3 : (0 : Int) ≤ (o : Int) := by omega
      have i4 : (o : Int) < (b.length : Int) := by omega
      have i5 : (0 : Int) ≤ (o1 : Int) := by omega
      have HR0 := hid (And.intro hr hb)
      clear hr hb hX hY hx' hup ho hSl
      go_wp2
      go_loopw [4, 6] (fun v i wr => ∃ k : Nat, k ≤ X.toNat + 1 ∧ i = .int .i64 (k : Int) ∧ Row wr w.heap.size v (S ++ List.replicate k Y) ∧ Below w.heap.size w wr) (fun _ i _ => X.toNat + 1 - (intOf i).toNat)
      case atStart => exact ⟨0, by omega, rfl, by rw [List.replicate_zero, List.append_nil]; exact HR0.out.1, HR0.out.2⟩
      case round =>
        clear HR0
        obtain ⟨k, hk, rfl, hr, hb⟩ := hrel
        have c0 : wr.cell? (x.add o) = some (.int .u8 (X.toNat : Int)) := by rw [hb.cell hlt0]; exact hx0
        have c1 : wr.cell? (x.add o1) = some (.int .u8 (Y.toNat : Int)) := by rw [hb.cell hlt1]; exact hx1
        by_cases hkl : k < X.toNat + 1
        · have i6 : (k : Int) ≤ (X.toNat : Int) := by omega
          have hr6 : Row (wr.alloc (.cells (bv [Y]).toArray 5)) w.heap.size u4 (S ++ List.replicate k Y) := hr.below ((Below.refl _ _).alloc (Nat.le_refl _) _)
          have hb6 : Below w.heap.size w (wr.alloc (.cells (bv [Y]).toArray 5)) := hb.alloc hb.size _
          have hs6 := (row_of_alloc wr w.heap.size hb.size [Y] (by simp [maxLen])).sl
          have HH := hid (And.intro hr6 (And.intro hb6 hs6))
          clear hr6 hb6 hs6 hr hb
          go_wp2_with (first | (at_builtin; refine wpList_append_bytes _ rfl _ _ rfl w.heap.size _ (S ++ List.replicate k Y) rfl HH.out.1 _ [Y] rfl HH.out.2.2 (by unfold room; simp; omega) HH.out.2.1.size ?_))
          intro v1 w1 hr1 hg1
          have hb1 := HH.out.2.1.trans (below_append HH.out.1 hg1 HH.out.2.1.size)
          have hr2 : Row w1 w.heap.size v1 (S ++ List.replicate (k + 1) Y) := by rw [List.replicate_succ']; first | exact hr1 | (rw [← List.append_assoc]; exact hr1)
          have HE := hid (And.intro hr2 hb1)
          clear hr1 hg1 hb1 HH hr2 c0 c1
          go_wp2
          go_roundw
          case rel => exact ⟨k + 1, by omega, by go_num, HE.out.1, HE.out.2⟩
          case measure => simp [intOf]; omega
        · obtain rfl : k = X.toNat + 1 := by omega
          have i6 : decide (((X.toNat + 1 : Nat) : Int) ≤ (X.toNat : Int)) = false := decide_eq_false (by omega)
          generalize hkk : X.toNat + 1 = kk at *
          have HE := hid (And.intro hr hb)
          have y7 : IntKind.i64.wrap ((o : Int) + 2) = (o : Int) + 2 := by rw [IntKind.wrap_i64]; omega
          have i7 : ¬ (kk : Int) ≤ (X.toNat : Int) := by omega
          have HKK := hid hkk
          clear hr hb hkk
          go_wp2
          go_roundw
          case rel => exact ⟨S ++ List.replicate kk Y, j + 1, by have := HO.out; omega, by have := HO.out; rw [show ((2 * (j + 1) : Nat) : Int) = (o : Int) + 2 by omega], by have := HKK.out; have := HSL.out; simp; omega, by have := HU.out; rw [List.append_assoc]; first | exact this | (rw [← HKK.out]; exact this), HE.out.1, HE.out.2⟩
          case measure => simp [intOf]; omega
    · have hS : S = up b ∨ 3072 < S.length ∧ S.length ≤ (up b).length := by
        by_cases h1 : 2 * j + 1 < b.length
        · refine .inr ⟨by omega, ?_⟩
          rw [← hup]; simp
        · refine .inl ?_
          rw [up_end b j h1, List.append_nil] at hup; exact hup
      have hun := un_of b S hS
      obtain ⟨o, ho⟩ : ∃ o, 2 * j = o := ⟨_, rfl⟩
      rw [ho] at hgo hj ⊢
      obtain ⟨o1, ho1⟩ : ∃ o1, o + 1 = o1 := ⟨_, rfl⟩
      have y3 : (o : Int) + 1 = (o1 : Int) := by omega
      have y5 : IntKind.i64.wrap (o1 : Int) = (o1 : Int) := by rw [IntKind.wrap_i64]; omega
      rw [ho1] at hgo
      have hpk := rpack_any _ S wr hr.sl
      have HN := hid hun
      have HR := hid (And.intro hr hb)
      have hgo2 : (¬ (o1 : Int) < (b.length : Int)) ∨ ((o1 : Int) < (b.length : Int) ∧ ¬ (S.length : Int) ≤ 3072) := by
        by_cases h1 : o1 < b.length
        · exact .inr ⟨by omega, by omega⟩
        · exact .inl (by omega)
      clear hr hb hup hun hS hgo ho ho1
      by_cases h3 : S.length = 3072
      · rw [show pkE S = pk S by rw [pkE, if_pos h3], show pkN S = 0 by rw [pkN, if_pos h3]] at hpk
        have i8 : ¬ (o1 : Int) < (b.length : Int) := by
          rcases hgo2 with h | ⟨_, h⟩
          · exact h
          · exact absurd (show (S.length : Int) ≤ 3072 by omega) h
        have i7 : decide ((o1 : Int) < (b.length : Int)) = false := decide_eq_false i8
        have hpl := pk_most S
        obtain ⟨Z, hZ⟩ : ∃ Z, pk S = Z := ⟨_, rfl⟩
        rw [hZ] at hpk hpl
        have HZ := hid hZ
        have H3 := hid h3
        have HPL := hid (show Z.length ≤ maxLen by unfold maxLen; omega)
        clear hgo2 hZ hpl h3
        go_wp2_with fail
        refine hpk.mono ?_
        rintro e w1 ⟨p1, c1, rfl, hr1, hb1⟩
        have cv1 := hr1.sl.conv HPL.out
        have hb2 := HR.out.2.trans (hb1.mono HR.out.2.size)
        have cv2 := (HS.out.below ((hb2 : Below w.heap.size w w1))).conv hm
        have hr2 := HR.out.1.below hb1
        by_cases he : Z = b
        · subst he
          obtain ⟨e1, e2⟩ := HN.out.1 ⟨H3.out, HZ.out⟩
          have HE := hid (And.intro hr2 (And.intro hb2 (And.intro e1 e2)))
          clear hr2 hb2 hr1 hb1 hpk e1 e2 HN
          go_wp2
          go_ret2
          obtain ⟨q1, q2, q3, q4⟩ := HE.out
          rw [q3, q4]
          exact ⟨_, _, rfl, q1, q2⟩
        · have hse : ¬ (⟨Z.toArray⟩ : ByteArray).toList = (⟨b.toArray⟩ : ByteArray).toList := fun h => by
            have h2 := str_inj2 h
            simp only [ByteArray.mk.injEq] at h2
            exact he (by simpa using congrArg Array.toList h2)
          obtain ⟨e1, e2⟩ := HN.out.2 (fun k => he (HZ.out.symm.trans k.2))
          have HE := hid (And.intro hb2 (And.intro e1 e2))
          generalize (⟨Z.toArray⟩ : ByteArray) = Z1 at *
          generalize (⟨b.toArray⟩ : ByteArray) = Z2 at *
          have hs3 : (Z1.toList == Z2.toList) = false := by simpa using hse
          clear hr2 hb2 hr1 hb1 hpk e1 e2 HN he hse
          go_wp2
          go_ret2
          obtain ⟨q2, q3, q4⟩ := HE.out
          rw [q3, q4]
          exact ⟨none, 0, rfl, row_nil _ _, q2⟩
      · rw [show pkE S = [] by rw [pkE, if_neg h3], show pkN S = 2 by rw [pkN, if_neg h3]] at hpk
        obtain ⟨e1, e2⟩ := HN.out.2 (fun k => h3 k.1)
        have HE0 := hid (And.intro e1 e2)
        clear h3 e1 e2 HN
        rcases hgo2 with i8 | ⟨i8, i9⟩
        · have i7 : decide ((o1 : Int) < (b.length : Int)) = false := decide_eq_false i8
          go_wp2_with fail
          refine hpk.mono ?_
          rintro e w1 ⟨p1, c1, rfl, hr1, hb1⟩
          have HE := hid (And.intro (HR.out.2.trans (hb1.mono HR.out.2.size)) HE0.out)
          clear hr1 hb1 hpk
          go_wp2
          go_ret2
          obtain ⟨q2, q3, q4⟩ := HE.out
          rw [q3, q4]
          exact ⟨none, 0, rfl, row_nil _ _, q2⟩
        · have i7 : decide ((S.length : Int) ≤ 3072) = false := decide_eq_false i9
          go_wp2_with fail
          refine hpk.mono ?_
          rintro e w1 ⟨p1, c1, rfl, hr1, hb1⟩
          have HE := hid (And.intro (HR.out.2.trans (hb1.mono HR.out.2.size)) HE0.out)
          clear hr1 hb1 hpk
          go_wp2
          go_ret2
          obtain ⟨q2, q3, q4⟩ := HE.out
          rw [q3, q4]
          exact ⟨none, 0, rfl, row_nil _ _, q2⟩
end Go.Proofs.Ytlljelfplffglab.H
