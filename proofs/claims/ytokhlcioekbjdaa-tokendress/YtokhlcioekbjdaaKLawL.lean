import Derived.Test.YtokhlcioekbjdaaKLawS
import Derived.Lib.AppendStr
import Derived.Laws.IdiomStrings
import Derived.Deep.RegionHeldLaw
/-! TokenLong. -/
namespace Go.Proofs.Ytokhlcioekbjdaa.K
open Go.RowKit
open Go.Proofs
open Go.Proofs.Ytokhlcioekbjdaa
set_option linter.unusedVariables false
set_option linter.unusedSimpArgs false
set_option maxHeartbeats 1000000
set_option maxRecDepth 20000

def eB (b : UInt8) : List Value := [.int .u8 (b.toNat : Int)]
theorem hB (b : UInt8) : (eB b).length = 1 := rfl
theorem infoU : (Try.prog.info? 5).map (fun i => (i.zero, i.size, i.bytes)) = some (some (.int .u8 0), 1, 1) := by kernel_rfl
theorem strCells_en (s : ByteArray) : Lib.strCells s = S.en eB s.data.toList := by
  unfold Lib.strCells S.en eB
  generalize s.data.toList = l
  induction l with
  | nil => rfl
  | cons a t ih => simp [ih]
/-- A row of bytes of its own. -/
def RB (W : World) (B : Nat) (v : Value) (l : List UInt8) : Prop := W.ownsRow B 5 1 v l.length (S.en eB l)
theorem RB.conv {W : World} {B g n cap : Nat} {l : List UInt8} (h : RB W B (.slice (some ⟨g, 0, none⟩) n cap) l) (hn : n = l.length) : (convert 41 9 (.slice (some ⟨g, 0, none⟩) n cap)).run Try.prog W = .ok (.string ⟨l.toArray⟩) W := by
  subst hn
  refine run_convert_bytes_back W 41 9 5 ⟨g, 0, none⟩ cap l Try.underlying41 Try.underlying5 Try.underlying9 fun j hj => ?_
  have := World.ownsRow.cells h (g := g) rfl j (.int .u8 (l[j].toNat : Int)) (by
    have := S.en_get hB l j 0 l[j] (List.getElem?_eq_getElem hj) (by decide)
    simpa [eB] using this)
  exact this
theorem RB.below {W W' : World} {B : Nat} {v : Value} {l : List UInt8} (h : RB W B v l) (b : Below W.heap.size W W') : RB W' B v l := own_below h b
theorem RB.drew {W : World} {B : Nat} {v : Value} {l : List UInt8} (h : RB W B v l) : RB W.drew B v l := World.ownsRow.drew h
theorem fill_cases (a : Int) (h0 : 0 ≤ a) : a % 4 = 0 ∨ a % 4 = 1 ∨ a % 4 = 2 ∨ a % 4 = 3 := by omega
theorem grown_bel {W W' : World} {v : Value} {B : Nat} {W0 : World} (h0 : Below B W0 W) (g : W.grownBy W' v.ownBlock) (hv : ∀ x, v.ownBlock = some x → B ≤ x) (hB : B ≤ W.heap.size) : Below B W0 W' := h0.grown g hB hv
theorem long_walk (h : ByteArray) (hs : h.size ≤ 140737488355328) (a : Int) (a0 : 0 ≤ a) (a1 : a < 256) (m : Int) (w : World) : Calls Try.prog 6 #[.string h, .int .u8 a, .int .i64 m] w fun e w' => e = .returned (.bool true) ∧ Below w.heap.size w w' := by
  obtain ⟨i0, hi, hz0, hz1, hz2⟩ := info_parts infoU
  go_enter Try.func6, Try.ntmps6
  go_upto_if 19 with fail
  go_cut [0] (fun x wc => ∃ hd : ByteArray, x = .string hd ∧ hd.size ≤ 100 ∧ wc = w)
  case first =>
    by_cases q : 100 < h.size
    · have d1 : decide ((100 : Int) < (h.size : Int)) = true := decide_eq_true (by omega)
      have d2 : 100 ≤ h.size := by omega
      go_wp2
      go_meet
      case rel => exact ⟨h.extract 0 100, rfl, by rw [ByteArray.size_extract]; omega, rfl⟩
    · have d1 : decide ((100 : Int) < (h.size : Int)) = false := decide_eq_false (by omega)
      go_wp2
      go_meet
      case rel => exact ⟨h, rfl, by omega, rfl⟩
  case rest =>
    obtain ⟨hd, rfl, hh, hwc⟩ := hcut
    obtain rfl := hwc.symm
    go_wp2_with (first | (at_builtin; refine Lib.wpList_append_own_string _ rfl (.tmp 25) (.tmp 26) 41 9 rfl w.heap.size 5 i0 Try.underlying41 Try.underlying9 hi hz0 hz1 hz2 (.slice none 0 0) 0 [] rfl (World.ownsRow_nil _ _ _ _) hd rfl (by unfold maxLen; omega) (by omega) (Nat.le_refl _) ?_))
    intro v1 w1 o1 g1 _
    have r1 : RB w1 w.heap.size v1 hd.data.toList := by
      unfold RB; rw [T.size_list]; rw [strCells_en] at o1; simpa using o1
    have b1 : Below w.heap.size w w1 := (Below.refl _ w).grown g1 (Nat.le_refl _) (fun k e => by simp [Value.ownBlock] at e)
    have H1 := hid (And.intro r1 b1)
    clear r1 b1 o1 g1
    go_wp2_with fail
    go_loopw [8, 9] (fun v x wr => ∃ (k : Nat) (l : List UInt8), x = .int .i64 (k : Int) ∧ k ≤ 65536 - hd.size ∧ l.length = hd.size + k ∧ RB wr w.heap.size v l ∧ Below w.heap.size w wr) (fun _ x _ => 65536 - hd.size - (Lib.intOf x).toNat)
    case atStart => exact ⟨0, hd.data.toList, rfl, Nat.zero_le _, by rw [T.size_list]; rfl, H1.out.1, H1.out.2⟩
    case round =>
      clear H1
      obtain ⟨k, l, rfl, hk, hl, hR, hW⟩ := hrel
      by_cases hlt : k < 65536 - hd.size
      · have i1 : (k : Int) < 65536 - (hd.size : Int) := by omega
        have hlb : l.length < 65536 := by omega
        have HL := hid hl
        clear hl
        have hO := own_below hR (bel_alloc wr (.cells #[.int .u8 32] 5))
        have hwz : ∀ o, w.heap.size ≤ (wr.alloc o).heap.size := fun o => by have := hW.size; simp; omega
        have HR := hid hR
        have HW := hid hW
        clear hR hW hO
        rcases fill_cases a a0 with hf | hf | hf | hf
        · have hf' : a.tmod 4 = 0 := by rw [Int.tmod_eq_emod_of_nonneg a0]; exact hf
          have hcs : S.Cs (wr.alloc (.cells #[.int .u8 32] 5)) (.slice (some ⟨wr.heap.size, 0, none⟩) 1 1) 1 1 (eB 32) := cs_alloc wr (eB 32) 5 1 rfl (by intro v hv; simp [eB] at hv; subst hv; rfl)
          have hend : ∀ v4 w4, w4.ownsRow w.heap.size 5 1 v4 (l.length + 1) (S.en eB l ++ eB 32) → S.Grew (wr.alloc (.cells #[.int .u8 32] 5)) w4 u8 v4 → RB w4 w.heap.size v4 (l ++ [32]) ∧ Below w.heap.size w w4 := by
            intro v4 w4 ho hg
            refine ⟨?_, hg.belowAll (fun g e => (HR.out.lt g e).1) (N := w.heap.size) (W0 := w) (HW.out.alloc HW.out.size _) (Nat.le_refl _)⟩
            unfold RB; rw [List.length_append, S.en_append]; simpa [S.en] using ho
          have HE := hid hend
          clear hend
          go_wp2_with (first | (at_builtin; refine S.wpList_append_row _ rfl (.tmp 33) (.tmp 37) 41 5 (.int .u8 0) 1 1 Try.underlying41 infoU rfl (by decide) rfl w.heap.size u8 l.length (S.en eB l) rfl (own_below HR.out (bel_alloc wr _)) _ 1 (eB 32) rfl hcs (by unfold S.room; omega) (by unfold maxLen; omega) (hwz _) ?_))
          intro v4 w4 ho4 hg4
          obtain ⟨x1, x2⟩ := HE.out v4 w4 ho4 hg4
          have X1 := hid x1
          have X2 := hid x2
          clear x1 x2 ho4 hg4 HE hcs
          go_wp2_with fail
          go_roundw
          case rel => exact ⟨k + 1, l ++ [32], by simp, by omega, by rw [List.length_append, HL.out]; rfl, X1.out, X2.out⟩
          case measure => simp only [Lib.intOf]; omega
        · have hf' : a.tmod 4 = 1 := by rw [Int.tmod_eq_emod_of_nonneg a0]; exact hf
          have hcs : S.Cs (wr.alloc (.cells #[.int .u8 10] 5)) (.slice (some ⟨wr.heap.size, 0, none⟩) 1 1) 1 1 (eB 10) := cs_alloc wr (eB 10) 5 1 rfl (by intro v hv; simp [eB] at hv; subst hv; rfl)
          have hend : ∀ v4 w4, w4.ownsRow w.heap.size 5 1 v4 (l.length + 1) (S.en eB l ++ eB 10) → S.Grew (wr.alloc (.cells #[.int .u8 10] 5)) w4 u8 v4 → RB w4 w.heap.size v4 (l ++ [10]) ∧ Below w.heap.size w w4 := by
            intro v4 w4 ho hg
            refine ⟨?_, hg.belowAll (fun g e => (HR.out.lt g e).1) (N := w.heap.size) (W0 := w) (HW.out.alloc HW.out.size _) (Nat.le_refl _)⟩
            unfold RB; rw [List.length_append, S.en_append]; simpa [S.en] using ho
          have HE := hid hend
          clear hend
          go_wp2_with (first | (at_builtin; refine S.wpList_append_row _ rfl (.tmp 33) (.tmp 37) 41 5 (.int .u8 0) 1 1 Try.underlying41 infoU rfl (by decide) rfl w.heap.size u8 l.length (S.en eB l) rfl (own_below HR.out (bel_alloc wr _)) _ 1 (eB 10) rfl hcs (by unfold S.room; omega) (by unfold maxLen; omega) (hwz _) ?_))
          intro v4 w4 ho4 hg4
          obtain ⟨x1, x2⟩ := HE.out v4 w4 ho4 hg4
          have X1 := hid x1
          have X2 := hid x2
          clear x1 x2 ho4 hg4 HE hcs
          go_wp2_with fail
          go_roundw
          case rel => exact ⟨k + 1, l ++ [10], by simp, by omega, by rw [List.length_append, HL.out]; rfl, X1.out, X2.out⟩
          case measure => simp only [Lib.intOf]; omega
        · have hf' : a.tmod 4 = 2 := by rw [Int.tmod_eq_emod_of_nonneg a0]; exact hf
          have hcs : S.Cs (wr.alloc (.cells #[.int .u8 9] 5)) (.slice (some ⟨wr.heap.size, 0, none⟩) 1 1) 1 1 (eB 9) := cs_alloc wr (eB 9) 5 1 rfl (by intro v hv; simp [eB] at hv; subst hv; rfl)
          have hend : ∀ v4 w4, w4.ownsRow w.heap.size 5 1 v4 (l.length + 1) (S.en eB l ++ eB 9) → S.Grew (wr.alloc (.cells #[.int .u8 9] 5)) w4 u8 v4 → RB w4 w.heap.size v4 (l ++ [9]) ∧ Below w.heap.size w w4 := by
            intro v4 w4 ho hg
            refine ⟨?_, hg.belowAll (fun g e => (HR.out.lt g e).1) (N := w.heap.size) (W0 := w) (HW.out.alloc HW.out.size _) (Nat.le_refl _)⟩
            unfold RB; rw [List.length_append, S.en_append]; simpa [S.en] using ho
          have HE := hid hend
          clear hend
          go_wp2_with (first | (at_builtin; refine S.wpList_append_row _ rfl (.tmp 33) (.tmp 37) 41 5 (.int .u8 0) 1 1 Try.underlying41 infoU rfl (by decide) rfl w.heap.size u8 l.length (S.en eB l) rfl (own_below HR.out (bel_alloc wr _)) _ 1 (eB 9) rfl hcs (by unfold S.room; omega) (by unfold maxLen; omega) (hwz _) ?_))
          intro v4 w4 ho4 hg4
          obtain ⟨x1, x2⟩ := HE.out v4 w4 ho4 hg4
          have X1 := hid x1
          have X2 := hid x2
          clear x1 x2 ho4 hg4 HE hcs
          go_wp2_with fail
          go_roundw
          case rel => exact ⟨k + 1, l ++ [9], by simp, by omega, by rw [List.length_append, HL.out]; rfl, X1.out, X2.out⟩
          case measure => simp only [Lib.intOf]; omega
        · have hf' : a.tmod 4 = 3 := by rw [Int.tmod_eq_emod_of_nonneg a0]; exact hf
          have hcs : S.Cs (wr.alloc (.cells #[.int .u8 46] 5)) (.slice (some ⟨wr.heap.size, 0, none⟩) 1 1) 1 1 (eB 46) := cs_alloc wr (eB 46) 5 1 rfl (by intro v hv; simp [eB] at hv; subst hv; rfl)
          have hend : ∀ v4 w4, w4.ownsRow w.heap.size 5 1 v4 (l.length + 1) (S.en eB l ++ eB 46) → S.Grew (wr.alloc (.cells #[.int .u8 46] 5)) w4 u8 v4 → RB w4 w.heap.size v4 (l ++ [46]) ∧ Below w.heap.size w w4 := by
            intro v4 w4 ho hg
            refine ⟨?_, hg.belowAll (fun g e => (HR.out.lt g e).1) (N := w.heap.size) (W0 := w) (HW.out.alloc HW.out.size _) (Nat.le_refl _)⟩
            unfold RB; rw [List.length_append, S.en_append]; simpa [S.en] using ho
          have HE := hid hend
          clear hend
          go_wp2_with (first | (at_builtin; refine S.wpList_append_row _ rfl (.tmp 33) (.tmp 37) 41 5 (.int .u8 0) 1 1 Try.underlying41 infoU rfl (by decide) rfl w.heap.size u8 l.length (S.en eB l) rfl (own_below HR.out (bel_alloc wr _)) _ 1 (eB 46) rfl hcs (by unfold S.room; omega) (by unfold maxLen; omega) (hwz _) ?_))
          intro v4 w4 ho4 hg4
          obtain ⟨x1, x2⟩ := HE.out v4 w4 ho4 hg4
          have X1 := hid x1
          have X2 := hid x2
          clear x1 x2 ho4 hg4 HE hcs
          go_wp2_with fail
          go_roundw
          case rel => exact ⟨k + 1, l ++ [46], by simp, by omega, by rw [List.length_append, HL.out]; rfl, X1.out, X2.out⟩
          case measure => simp only [Lib.intOf]; omega
      · obtain rfl : k = 65536 - hd.size := by omega
        have hl2 : l.length = 65536 := by omega
        obtain ⟨g, cap, rfl⟩ := S.own_pos hR (by omega)
        have hsz : (⟨l.toArray⟩ : ByteArray).size = 65536 := by show l.toArray.size = _; simpa using hl2
        have hcv := hR.conv rfl
        have i1 : ¬ ((65536 - hd.size : Nat) : Int) < 65536 - (hd.size : Int) := by omega
        have hS := fun W => scanw_any ⟨l.toArray⟩ (by omega) W
        have hQ := fun W => rscan_any ⟨l.toArray⟩ (by omega) W
        have hl1 := ans_len ⟨l.toArray⟩
        have HL := hid hl2
        clear hl hl2
        generalize ans ⟨l.toArray⟩ = A at *
        obtain ⟨ts, p, er⟩ := A
        simp only at hS hQ hl1
        have HR := hid hR
        have HW := hid hW
        clear hR hW
        go_wp2_with fail
        refine (hS _).mono ?_
        rintro e w2 ⟨⟨v2, rfl, o2⟩, h2⟩
        obtain ⟨pa2, ca2, rfl⟩ := own_val o2
        have HW := hid (trB HW.out h2 HW.out.size)
        have HSZ := hid HW.out.size
        have HR := hid (HR.out.below h2)
        obtain ⟨U2, V2, hU2, hz2, hV2, hb2, p2, q2⟩ := pos_row w2 p
        have hzV : V2.heap[w2.heap.size]? = some (.cells (pc p) 24 (0, 0)) := by rw [← hV2]; exact setRow_heap U2 w2.heap.size _ _ _ _ hz2
        have o2 := own_below o2 hb2
        have HW := hid (trB HW.out hb2 HW.out.size)
        have HR := hid (HR.out.below hb2)
        have hcv := HR.out.conv rfl
        clear h2 hb2
        go_wp2_with (refine wpList_store_row rfl 24 _ _ rfl w2.heap.size _ rfl rfl 24 #[.int .i64 0, .int .i64 0] hz2 (by exact sizeP) (by rfl) (by simp [Value.oneCell', pc]) ?_)
        refine (hQ _).mono ?_
        rintro e w3 ⟨⟨v3, rfl, o3⟩, h3⟩
        obtain ⟨pa3, ca3, rfl⟩ := own_val o3
        obtain ⟨U3, V3, hU3, hz3, hV3, hb3, p3, q3⟩ := pos_row w3 p
        have h3b := trB h3 hb3 h3.size
        have o2 := own_below o2 h3b
        have o3 := own_below o3 hb3
        have p2 := below_cell h3b _ _ p2
        have q2 := below_cell h3b _ _ q2
        have hzV := (h3b.block _ (lt_of hzV)).trans hzV
        have HW := hid (trB HW.out h3b HW.out.size)
        have HR := hid (HR.out.below h3b)
        have hnp := fun W => neq_pos W p.1 p.2
        clear h3 hb3 h3b hcv
        go_upto_region 12 with (refine wpList_store_row rfl 24 _ _ rfl w3.heap.size _ rfl rfl 24 #[.int .i64 0, .int .i64 0] hz3 (by exact sizeP) (by rfl) (by simp [Value.oneCell', pc]) ?_)
        go_wp2_with fail
        refine (fixed_any _).mono ?_
        rintro e w4 ⟨rfl, h4⟩
        have o2 := own_below o2 h4
        have o3 := own_below o3 h4
        have p2 := below_cell h4 _ _ p2
        have q2 := below_cell h4 _ _ q2
        have p3 := below_cell h4 _ _ p3
        have q3 := below_cell h4 _ _ q3
        have hzV := (h4.block _ (lt_of hzV)).trans hzV
        have HW := hid (trB HW.out h4 HW.out.size)
        have HR := hid (HR.out.below h4)
        clear h4
        go_wp2_with fail
        refine (same_any ts hl1 _ _ _ (S.own_sl hT o2) (S.own_sl hT o3)).mono ?_
        rintro e w5 ⟨rfl, h5⟩
        have p2 := below_cell h5 _ _ p2
        have q2 := below_cell h5 _ _ q2
        have p3 := below_cell h5 _ _ p3
        have q3 := below_cell h5 _ _ q3
        have hzV := (h5.block _ (lt_of hzV)).trans hzV
        have HW := hid (trB HW.out h5 HW.out.size)
        have HR := hid (HR.out.below h5)
        have HZ := hid hzV
        clear h5 o2 o3 hzV
        have hr0 : -2 ≤ m.tmod 3 ∧ m.tmod 3 ≤ 2 := by
          have h1 := Int.tmod_lt_of_pos m (show (0 : Int) < 3 by decide)
          have h2 := Int.lt_tmod_of_pos m (show (0 : Int) < 3 by decide)
          omega
        obtain ⟨hr1, hr2⟩ := hr0
        go_wp2_with fail
        go_loopw [8, 16] (fun v x wr => ∃ (k : Nat) (l2 : List UInt8), x = .int .i64 (k : Int) ∧ k ≤ 3 ∧ l2.length = 65536 + k ∧ RB wr w.heap.size v l2 ∧ Below w.heap.size w wr ∧ wr.heap[w2.heap.size]? = some (.cells (pc p) 24 (0, 0))) (fun _ x _ => 3 - (Lib.intOf x).toNat)
        case atStart => exact ⟨0, l, rfl, by omega, HL.out, HR.out, HW.out, HZ.out⟩
        case round =>
          clear HR HW HZ p2 q2 p3 q3
          obtain ⟨k, l2, rfl, hk, hl2, hR2, hW2, hZ2⟩ := hrel
          have hlb2 : l2.length ≤ 65539 := by omega
          have hlc2 : 65536 + k ≤ l2.length := by omega
          have hwz2 : ∀ o, w.heap.size ≤ (wr.alloc o).heap.size := fun o => by have := hW2.size; simp; omega
          have HL2 := hid hl2
          have HR2 := hid hR2
          have HW2 := hid hW2
          have HZ2 := hid hZ2
          clear hl2 hR2 hW2 hZ2
          by_cases c1 : (k : Int) < 1 + m.tmod 3
          · have d1 : decide ((k : Int) < 1 + m.tmod 3) = true := decide_eq_true c1
            have hcs : S.Cs (wr.alloc (.cells #[.int .u8 32] 5)) (.slice (some ⟨wr.heap.size, 0, none⟩) 1 1) 1 1 (eB 32) := cs_alloc wr (eB 32) 5 1 rfl (by intro v hv; simp [eB] at hv; subst hv; rfl)
            have hend : ∀ v4 w4, w4.ownsRow w.heap.size 5 1 v4 (l2.length + 1) (S.en eB l2 ++ eB 32) → S.Grew (wr.alloc (.cells #[.int .u8 32] 5)) w4 u8 v4 → RB w4 w.heap.size v4 (l2 ++ [32]) ∧ Below w.heap.size w w4 ∧ w4.heap[w2.heap.size]? = some (.cells (pc p) 24 (0, 0)) := by
              intro v4 w4 ho hg
              have hal := bel_alloc wr (.cells #[.int .u8 32] 5)
              refine ⟨?_, hg.belowAll (fun g e => (HR2.out.lt g e).1) (N := w.heap.size) (W0 := w) (HW2.out.alloc HW2.out.size _) (Nat.le_refl _), ?_⟩
              · unfold RB; rw [List.length_append, S.en_append]; simpa [S.en] using ho
              · have hzz := (hal.block _ (lt_of HZ2.out)).trans HZ2.out
                refine (hg.block _ (lt_of hzz) (fun e => ?_)).trans hzz
                rcases HR2.out.2 with ⟨e1, _⟩ | ⟨g5, cap5, cur5, e1, _, hg5, _⟩
                · rw [e1] at e; simp [Value.ownBlock] at e
                · rw [e1] at e; simp [Value.ownBlock] at e; subst e; rw [HZ2.out] at hg5; simp at hg5
            have HE := hid hend
            clear hend
            go_wp2_with (first | (at_builtin; refine S.wpList_append_row _ rfl (.tmp 82) (.tmp 83) 41 5 (.int .u8 0) 1 1 Try.underlying41 infoU rfl (by decide) rfl w.heap.size u8 l2.length (S.en eB l2) rfl (own_below HR2.out (bel_alloc wr _)) _ 1 (eB 32) rfl hcs (by unfold S.room; omega) (by unfold maxLen; omega) (hwz2 _) ?_))
            intro v4 w4 ho4 hg4
            obtain ⟨x1, x2, x3⟩ := HE.out v4 w4 ho4 hg4
            have X1 := hid x1
            have X2 := hid x2
            have X3 := hid x3
            clear x1 x2 x3 ho4 hg4 HE hcs
            go_wp2_with fail
            go_roundw
            case rel => exact ⟨k + 1, l2 ++ [32], by simp, by omega, by rw [List.length_append, HL2.out]; rfl, X1.out, X2.out, X3.out⟩
            case measure => simp only [Lib.intOf]; omega
          · have d1 : decide ((k : Int) < 1 + m.tmod 3) = false := decide_eq_false c1
            by_cases c2 : k < 1
            · have d2 : decide ((k : Int) < 1) = true := decide_eq_true (by omega)
              have hcs : S.Cs (wr.alloc (.cells #[.int .u8 32] 5)) (.slice (some ⟨wr.heap.size, 0, none⟩) 1 1) 1 1 (eB 32) := cs_alloc wr (eB 32) 5 1 rfl (by intro v hv; simp [eB] at hv; subst hv; rfl)
              have hend : ∀ v4 w4, w4.ownsRow w.heap.size 5 1 v4 (l2.length + 1) (S.en eB l2 ++ eB 32) → S.Grew (wr.alloc (.cells #[.int .u8 32] 5)) w4 u8 v4 → RB w4 w.heap.size v4 (l2 ++ [32]) ∧ Below w.heap.size w w4 ∧ w4.heap[w2.heap.size]? = some (.cells (pc p) 24 (0, 0)) := by
                intro v4 w4 ho hg
                have hal := bel_alloc wr (.cells #[.int .u8 32] 5)
                refine ⟨?_, hg.belowAll (fun g e => (HR2.out.lt g e).1) (N := w.heap.size) (W0 := w) (HW2.out.alloc HW2.out.size _) (Nat.le_refl _), ?_⟩
                · unfold RB; rw [List.length_append, S.en_append]; simpa [S.en] using ho
                · have hzz := (hal.block _ (lt_of HZ2.out)).trans HZ2.out
                  refine (hg.block _ (lt_of hzz) (fun e => ?_)).trans hzz
                  rcases HR2.out.2 with ⟨e1, _⟩ | ⟨g5, cap5, cur5, e1, _, hg5, _⟩
                  · rw [e1] at e; simp [Value.ownBlock] at e
                  · rw [e1] at e; simp [Value.ownBlock] at e; subst e; rw [HZ2.out] at hg5; simp at hg5
              have HE := hid hend
              clear hend
              go_wp2_with (first | (at_builtin; refine S.wpList_append_row _ rfl (.tmp 82) (.tmp 83) 41 5 (.int .u8 0) 1 1 Try.underlying41 infoU rfl (by decide) rfl w.heap.size u8 l2.length (S.en eB l2) rfl (own_below HR2.out (bel_alloc wr _)) _ 1 (eB 32) rfl hcs (by unfold S.room; omega) (by unfold maxLen; omega) (hwz2 _) ?_))
              intro v4 w4 ho4 hg4
              obtain ⟨x1, x2, x3⟩ := HE.out v4 w4 ho4 hg4
              have X1 := hid x1
              have X2 := hid x2
              have X3 := hid x3
              clear x1 x2 x3 ho4 hg4 HE hcs
              go_wp2_with fail
              go_roundw
              case rel => exact ⟨k + 1, l2 ++ [32], by simp, by omega, by rw [List.length_append, HL2.out]; rfl, X1.out, X2.out, X3.out⟩
              case measure => simp only [Lib.intOf]; omega
            · have d2 : decide ((k : Int) < 1) = false := decide_eq_false (by omega)
              obtain ⟨g2, cap2, rfl⟩ := S.own_pos HR2.out (by omega)
              have hsz2 : (⟨l2.toArray⟩ : ByteArray).size = l2.length := by show l2.toArray.size = _; simp
              have hcv := HR2.out.conv rfl
              have hSl := fun W => scan_long ⟨l2.toArray⟩ (by omega) (by omega) W
              have hE := fun W => end_any ⟨l2.toArray⟩ (by omega) W
              have hQE := fun W => rend_any ⟨l2.toArray⟩ (by omega) W
              generalize T.place (⟨l2.toArray⟩ : ByteArray).data.toList (⟨l2.toArray⟩ : ByteArray).size = pe at *
              simp only [pv, pc] at hE hQE
              have hqe := fun W => eql_pos W pe.1 pe.2
              have hq1 := fun W => eql_pos W 1 1
              go_wp2_with fail
              refine (hSl _).mono ?_
              rintro e w6 ⟨⟨v6, rfl, o6⟩, h6⟩
              obtain ⟨pa6, ca6, hv6⟩ := own_val o6
              have hv6 : v6 = .slice pa6 0 ca6 := hv6
              subst hv6
              have hz6 := (h6.block _ (lt_of HZ2.out)).trans HZ2.out
              have HB6 := hid (trB HW2.out h6 HW2.out.size)
              obtain ⟨V6, hV6⟩ : ∃ V6, w6.setRow w2.heap.size (pc (1, 1)) = V6 := ⟨_, rfl⟩
              have hy6 : V6.heap[w2.heap.size]? = some (.cells (pc (1, 1)) 24 (0, 0)) := by rw [← hV6]; exact setRow_heap w6 w2.heap.size _ _ _ _ hz6
              have hw2 : w.heap.size ≤ w2.heap.size := HSZ.out
              have HB6 := hid (show Below w.heap.size w V6 by rw [← hV6]; exact Below.setRow HB6.out w2.heap.size hw2 _)
              have HRV := hid (show RB V6 w.heap.size (.slice (some ⟨g2, 0, none⟩) l2.length cap2) l2 by
                have q := HR2.out.below h6
                rw [← hV6]
                refine S.own_kept q fun x hx _ => setRow_other w6 w2.heap.size x _ (fun e => ?_)
                subst e
                rcases q.2 with ⟨e1, _⟩ | ⟨g5, cap5, cur5, e1, _, hg5, _⟩
                · cases e1
                · simp only [Value.slice.injEq, Option.some.injEq, Addr.mk.injEq] at e1
                  simp only [Value.ownBlock, Option.some.injEq] at hx
                  rw [← e1.1.1, hx, hz6] at hg5
                  simp at hg5)
              have y0 : V6.cell? ⟨w2.heap.size, 0, none⟩ = some (.int .i64 1) := cell_of_row _ _ 0 _ _ _ hy6
              have y1 : V6.cell? ⟨w2.heap.size, 1, none⟩ = some (.int .i64 1) := cell_of_row _ _ 1 _ _ _ hy6
              clear h6 o6 hcv hy6
              go_upto_region 19 with (refine wpList_store_row rfl 24 _ _ rfl w2.heap.size _ rfl rfl 24 (pc p) hz6 (by exact sizeP) (by rfl) (by simp [Value.oneCell', pc]) ?_)
              try simp only [Act.put, List.getElem_toArray, List.getElem_cons_zero, List.getElem_cons_succ, List.setIfInBounds_toArray, List.set_cons_zero, List.set_cons_succ]
              have s0 : (fun wz => wz.cell? ⟨w2.heap.size, 0, none⟩ = some (.int .i64 1) ∧ wz.cell? ⟨w2.heap.size, 1, none⟩ = some (.int .i64 1) ∧ (convert 41 9 (.slice (some ⟨g2, 0, none⟩) l2.length cap2)).run Try.prog wz = .ok (.string ⟨l2.toArray⟩) wz) V6.drew := ⟨y0, y1, HRV.out.drew.conv rfl⟩
              refine wp_region_held_drew (S := (fun wz => wz.cell? ⟨w2.heap.size, 0, none⟩ = some (.int .i64 1) ∧ wz.cell? ⟨w2.heap.size, 1, none⟩ = some (.int .i64 1) ∧ (convert 41 9 (.slice (some ⟨g2, 0, none⟩) l2.length cap2)).run Try.prog wz = .ok (.string ⟨l2.toArray⟩) wz)) (by kernel_rfl) s0 (fun hHeld => ?_)
              have hbd : Below V6.heap.size V6 V6.drew := (Below.refl _ _).drew
              have HRD := hid HRV.out.drew
              generalize hWd : V6.drew = Wd at *
              refine wpAnyH_take (i := 0) (v := ?_) rfl (by kernel_rfl) (by kernel_rfl) (by kernel_rfl) (fun c a w h => h) (Or.inl ⟨by rfl, ?_⟩) hHeld ?_
              rotate_left
              · (intro w hSw; (try dsimp only at hSw); go_simp; try with_reducible rfl)
              simp only [Act.put, List.getElem_toArray, List.getElem_cons_zero, List.getElem_cons_succ, List.setIfInBounds_toArray, List.set_cons_zero, List.set_cons_succ]
              refine wpAnyH_take (i := 1) (v := ?_) rfl (by kernel_rfl) (by kernel_rfl) (by kernel_rfl) (fun c a w h => h) (Or.inl ⟨by rfl, ?_⟩) hHeld ?_
              rotate_left
              · (intro w hSw; (try dsimp only at hSw); go_simp; try with_reducible rfl)
              simp only [Act.put, List.getElem_toArray, List.getElem_cons_zero, List.getElem_cons_succ, List.setIfInBounds_toArray, List.set_cons_zero, List.set_cons_succ]
              refine wpAnyH_take (i := 2) (v := ?_) rfl (by kernel_rfl) (by kernel_rfl) (by kernel_rfl) (fun c a w h => h) (Or.inl ⟨by rfl, ?_⟩) hHeld ?_
              rotate_left
              · (intro w hSw; (try dsimp only at hSw); go_simp; try with_reducible rfl)
              simp only [Act.put, List.getElem_toArray, List.getElem_cons_zero, List.getElem_cons_succ, List.setIfInBounds_toArray, List.set_cons_zero, List.set_cons_succ]
              refine wpAnyH_take (i := 3) (v := ?_) rfl (by kernel_rfl) (by kernel_rfl) (by kernel_rfl) (fun c a w h => h) (Or.inl ⟨by rfl, ?_⟩) hHeld ?_
              rotate_left
              · (intro w hSw; (try dsimp only at hSw); go_simp; try with_reducible rfl)
              simp only [Act.put, List.getElem_toArray, List.getElem_cons_zero, List.getElem_cons_succ, List.setIfInBounds_toArray, List.set_cons_zero, List.set_cons_succ]
              refine wpAnyH_take (i := 4) (v := ?_) rfl (by kernel_rfl) (by kernel_rfl) (by kernel_rfl) (fun c a w h => h) (Or.inl ⟨by rfl, ?_⟩) hHeld ?_
              rotate_left
              · (intro w hSw; (try dsimp only at hSw); go_simp; try with_reducible rfl)
              simp only [Act.put, List.getElem_toArray, List.getElem_cons_zero, List.getElem_cons_succ, List.setIfInBounds_toArray, List.set_cons_zero, List.set_cons_succ]
              refine wpAnyH_take (i := 5) (v := ?_) rfl (by kernel_rfl) (by kernel_rfl) (by kernel_rfl) (fun c a w h => h) (Or.inl ⟨by rfl, ?_⟩) hHeld ?_
              rotate_left
              · (intro w hSw; (try dsimp only at hSw); go_simp; try with_reducible rfl)
              simp only [Act.put, List.getElem_toArray, List.getElem_cons_zero, List.getElem_cons_succ, List.setIfInBounds_toArray, List.set_cons_zero, List.set_cons_succ]
              refine wpAnyH_take (i := 6) (v := ?_) rfl (by kernel_rfl) (by kernel_rfl) (by kernel_rfl) (fun c a w h => h) (Or.inl ⟨by rfl, ?_⟩) hHeld ?_
              rotate_left
              · (intro w hSw; (try dsimp only at hSw); go_simp; try with_reducible rfl)
              simp only [Act.put, List.getElem_toArray, List.getElem_cons_zero, List.getElem_cons_succ, List.setIfInBounds_toArray, List.set_cons_zero, List.set_cons_succ]
              refine wpAnyH_take (i := 7) (v := ?_) rfl (by kernel_rfl) (by kernel_rfl) (by kernel_rfl) (fun c a w h => h) (Or.inl ⟨by rfl, ?_⟩) hHeld ?_
              rotate_left
              · (intro w hSw; (try dsimp only at hSw); go_simp; try with_reducible rfl)
              simp only [Act.put, List.getElem_toArray, List.getElem_cons_zero, List.getElem_cons_succ, List.setIfInBounds_toArray, List.set_cons_zero, List.set_cons_succ]
              refine wpAnyH_take (i := 8) (v := ?_) rfl (by kernel_rfl) (by kernel_rfl) (by kernel_rfl) (fun c a w h => h) (Or.inl ⟨by rfl, ?_⟩) hHeld ?_
              rotate_left
              · (intro w hSw; (try dsimp only at hSw); go_simp; try with_reducible rfl)
              simp only [Act.put, List.getElem_toArray, List.getElem_cons_zero, List.getElem_cons_succ, List.setIfInBounds_toArray, List.set_cons_zero, List.set_cons_succ]
              refine wpAnyH_take (i := 9) (v := ?_) rfl (by kernel_rfl) (by kernel_rfl) (by kernel_rfl) (fun c a w h => h) (Or.inl ⟨by rfl, ?_⟩) hHeld ?_
              rotate_left
              · (intro w hSw; (try dsimp only at hSw); go_simp; try with_reducible rfl)
              simp only [Act.put, List.getElem_toArray, List.getElem_cons_zero, List.getElem_cons_succ, List.setIfInBounds_toArray, List.set_cons_zero, List.set_cons_succ]
              refine wpAnyH_take (i := 10) (v := ?_) rfl (by kernel_rfl) (by kernel_rfl) (by kernel_rfl) (fun c a w h => h) (Or.inl ⟨by rfl, ?_⟩) hHeld ?_
              rotate_left
              · (intro w hSw; (try dsimp only at hSw); go_simp; try with_reducible rfl)
              simp only [Act.put, List.getElem_toArray, List.getElem_cons_zero, List.getElem_cons_succ, List.setIfInBounds_toArray, List.set_cons_zero, List.set_cons_succ]
              refine wpAnyH_take (i := 11) (v := ?_) rfl (by kernel_rfl) (by kernel_rfl) (by kernel_rfl) (fun c a w h => h) (Or.inl ⟨by rfl, ?_⟩) hHeld ?_
              rotate_left
              · (intro w hSw; (try dsimp only at hSw); go_simp; try with_reducible rfl)
              simp only [Act.put, List.getElem_toArray, List.getElem_cons_zero, List.getElem_cons_succ, List.setIfInBounds_toArray, List.set_cons_zero, List.set_cons_succ]
              refine wpAnyH_take (i := 12) (v := ?_) rfl (by kernel_rfl) (by kernel_rfl) (by kernel_rfl) (fun c a w h => h) (Or.inl ⟨by rfl, ?_⟩) hHeld ?_
              rotate_left
              · (intro w hSw; (try dsimp only at hSw); go_simp; try with_reducible rfl)
              simp only [Act.put, List.getElem_toArray, List.getElem_cons_zero, List.getElem_cons_succ, List.setIfInBounds_toArray, List.set_cons_zero, List.set_cons_succ]
              refine wpAnyH_take (i := 13) (v := ?_) rfl (by kernel_rfl) (by kernel_rfl) (by kernel_rfl) (fun c a w h => h) (Or.inl ⟨by rfl, ?_⟩) hHeld ?_
              rotate_left
              · (intro w hSw; (try dsimp only at hSw); go_simp; try with_reducible rfl)
              simp only [Act.put, List.getElem_toArray, List.getElem_cons_zero, List.getElem_cons_succ, List.setIfInBounds_toArray, List.set_cons_zero, List.set_cons_succ]
              refine wpAnyH_take (i := 14) (v := ?_) rfl (by kernel_rfl) (by kernel_rfl) (by kernel_rfl) (fun c a w h => h) (Or.inl ⟨by rfl, ?_⟩) hHeld ?_
              rotate_left
              · (intro w hSw; (try dsimp only at hSw); go_simp; try with_reducible rfl)
              simp only [Act.put, List.getElem_toArray, List.getElem_cons_zero, List.getElem_cons_succ, List.setIfInBounds_toArray, List.set_cons_zero, List.set_cons_succ]
              refine wpAnyH_take (i := 16) (v := ?_) rfl (by kernel_rfl) (by kernel_rfl) (by kernel_rfl) (fun c a w h => h) (Or.inl ⟨by rfl, ?_⟩) hHeld ?_
              rotate_left
              · (intro w hSw; (try dsimp only at hSw); go_simp; try with_reducible rfl)
              simp only [Act.put, List.getElem_toArray, List.getElem_cons_zero, List.getElem_cons_succ, List.setIfInBounds_toArray, List.set_cons_zero, List.set_cons_succ]
              refine wpAnyH_take (i := 17) (v := ?_) rfl (by kernel_rfl) (by kernel_rfl) (by kernel_rfl) (fun c a w h => h) (Or.inl ⟨by rfl, ?_⟩) hHeld ?_
              rotate_left
              · (intro w hSw; (try dsimp only at hSw); go_simp; try with_reducible rfl)
              simp only [Act.put, List.getElem_toArray, List.getElem_cons_zero, List.getElem_cons_succ, List.setIfInBounds_toArray, List.set_cons_zero, List.set_cons_succ]
              refine wpAnyH_ready (rs := [15]) (by kernel_rfl) (by simp) ?_
              refine AllReadyH.cons rfl (fun K hK => ?_) AllReadyH.nil
              · go_simp
                refine (hE _).mono ?_
                rintro e w7 ⟨rfl, h7⟩
                have s1 : (fun wz => wz.cell? ⟨w2.heap.size, 0, none⟩ = some (.int .i64 1) ∧ wz.cell? ⟨w2.heap.size, 1, none⟩ = some (.int .i64 1) ∧ (convert 41 9 (.slice (some ⟨g2, 0, none⟩) l2.length cap2)).run Try.prog wz = .ok (.string ⟨l2.toArray⟩) wz) w7 := ⟨below_cell h7 _ _ s0.1, below_cell h7 _ _ s0.2.1, (HRD.out.below h7).conv rfl⟩
                refine hK.out _ _ s1 (fun hHeld => ?_)
                clear hK K
                try simp only [Act.put, List.getElem_toArray, List.getElem_cons_zero, List.getElem_cons_succ, List.setIfInBounds_toArray, List.set_cons_zero, List.set_cons_succ]
                refine wpAnyH_ready (rs := [18]) (by kernel_rfl) (by simp) ?_
                refine AllReadyH.cons rfl (fun K hK => ?_) AllReadyH.nil
                go_simp
                refine (hQE _).mono ?_
                rintro e w8 ⟨rfl, h8⟩
                have s2 : (fun wz => wz.cell? ⟨w2.heap.size, 0, none⟩ = some (.int .i64 1) ∧ wz.cell? ⟨w2.heap.size, 1, none⟩ = some (.int .i64 1) ∧ (convert 41 9 (.slice (some ⟨g2, 0, none⟩) l2.length cap2)).run Try.prog wz = .ok (.string ⟨l2.toArray⟩) wz) w8 := ⟨below_cell h8 _ _ s1.1, below_cell h8 _ _ s1.2.1, ((HRD.out.below h7).below h8).conv rfl⟩
                refine hK.out _ _ s2 (fun hHeld => ?_)
                clear hK K
                try simp only [Act.put, List.getElem_toArray, List.getElem_cons_zero, List.getElem_cons_succ, List.setIfInBounds_toArray, List.set_cons_zero, List.set_cons_succ]
                refine wpAnyH_take (i := 19) (v := ?_) rfl (by kernel_rfl) (by kernel_rfl) (by kernel_rfl) (fun c a w h => h) (Or.inl ⟨by rfl, ?_⟩) hHeld ?_
                rotate_left
                · (intro w hSw; (try dsimp only at hSw); go_simp; try with_reducible rfl)
                simp only [Act.put, List.getElem_toArray, List.getElem_cons_zero, List.getElem_cons_succ, List.setIfInBounds_toArray, List.set_cons_zero, List.set_cons_succ]
                refine wpAnyH_take (i := 20) (v := ?_) rfl (by kernel_rfl) (by kernel_rfl) (by kernel_rfl) (fun c a w h => h) (Or.inl ⟨by rfl, ?_⟩) hHeld ?_
                rotate_left
                · (intro w hSw; (try dsimp only at hSw); go_simp; try with_reducible rfl)
                simp only [Act.put, List.getElem_toArray, List.getElem_cons_zero, List.getElem_cons_succ, List.setIfInBounds_toArray, List.set_cons_zero, List.set_cons_succ]
                refine wpAnyH_take (i := 21) (v := ?_) rfl (by kernel_rfl) (by kernel_rfl) (by kernel_rfl) (fun c a w h => h) (Or.inl ⟨by rfl, ?_⟩) hHeld ?_
                rotate_left
                · (intro w hSw; (try dsimp only at hSw); go_simp; try with_reducible rfl)
                simp only [Act.put, List.getElem_toArray, List.getElem_cons_zero, List.getElem_cons_succ, List.setIfInBounds_toArray, List.set_cons_zero, List.set_cons_succ]
                refine wpAnyH_done (by kernel_rfl) ?_ _
                clear hHeld
                try simp only [Act.put, List.getElem_toArray, List.getElem_cons_zero, List.getElem_cons_succ, List.setIfInBounds_toArray, List.set_cons_zero, List.set_cons_succ]
                go_wp2_with fail
                go_ret
                exact ⟨rfl, trB (trB (trB HB6.out hbd HB6.out.size) h7 (Nat.le_trans HB6.out.size hbd.size)) h8 (Nat.le_trans (Nat.le_trans HB6.out.size hbd.size) h7.size)⟩
end Go.Proofs.Ytokhlcioekbjdaa.K
