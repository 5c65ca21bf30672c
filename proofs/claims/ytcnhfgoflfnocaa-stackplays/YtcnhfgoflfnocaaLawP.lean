import Derived.Test.YtcnhfgoflfnocaaPlayK
import Derived.Deep.DeepCutAuto
/-! StackPlays, walked: plays handed in. -/
namespace Go.Proofs.Ytcnhfgoflfnocaa
open Go.RowKit
open Go.Proofs
set_option linter.unusedVariables false
set_option linter.unusedSimpArgs false
/-- One entry of a script. -/
structure OpD where
  k : Int
  a : Int
  b : Int
  v : Value
  u : Value
  l : List Int
  m : List (Int × Int)
def ScS (W : World) (p : Option Addr) (ps : List OpD) : Prop := ∀ (i : Nat) t, ps[i]? = some t → (∃ b o, p = some ⟨b, o, none⟩ ∧ W.cell? ⟨b, o + i * 5, none⟩ = some (.int .i64 t.k) ∧ W.cell? ⟨b, o + i * 5 + 1, none⟩ = some (.int .i64 t.a) ∧ W.cell? ⟨b, o + i * 5 + 2, none⟩ = some (.int .i64 t.b) ∧ W.cell? ⟨b, o + i * 5 + 3, none⟩ = some t.v ∧ W.cell? ⟨b, o + i * 5 + 4, none⟩ = some t.u) ∧
  Ls eU 1 W t.v t.l ∧ Ls eK 2 W t.u t.m ∧ t.l.length * 2 + 4096 ≤ room ∧ t.m.length * 16 + 4096 ≤ room
/-- What plays does. -/
def PlaysOk : Prop := ∀ (B bp n : Nat) (k a b : Int) (v u : Value) (l : List Int) (m : List (Int × Int)) (w0 w : World), AR B w0 v u l m → Below B w0 w → PE 0 0 B w bp n → n ≤ 1400 →
    Calls Try.prog 22 #[.pointer (some ⟨bp, 0, none⟩), .agg (opc k a b v u).toArray] w fun e w' => e = .returned (.bool true) ∧ PE 0 0 B w' bp n ∧ Below B w0 w'
theorem same_pe (B bp n : Nat) (w : World) (h : PE 0 0 B w bp n) (hn : n ≤ 1400) : Calls Try.prog 23 #[.pointer (some ⟨bp, 0, none⟩)] w fun e w' => e = .returned (.bool true) ∧ PE 0 0 B w' bp (n + 2) ∧ Below B w w' := by
  obtain ⟨_, _, _, _, _, _, _, _, _, _, _, _, P⟩ := h
  refine (same_any w P hn).mono ?_
  rintro e w' ⟨rfl, ⟨_, _, _, _, _, _, _, _, _, _, P'⟩, b⟩
  exact ⟨rfl, PX.pe P', b⟩
theorem still_pe (B bp n : Nat) (w : World) (h : PE 0 0 B w bp n) (hn : n ≤ 1500) : Calls Try.prog 24 #[.pointer (some ⟨bp, 0, none⟩)] w fun e w' => e = .returned (.bool true) ∧ w' = w := by
  obtain ⟨_, _, _, _, _, _, _, _, _, _, _, _, P⟩ := h
  exact still_any w P hn
theorem PE.below {lo hi B bp n : Nat} {W W' : World} (h : PE lo hi B W bp n) (k : Below W.heap.size W W') : PE lo hi B W' bp n := h.touch fun i hi _ => k.block i hi
theorem PE.base {lo hi B bp n : Nat} {W : World} (h : PE lo hi B W bp n) : B ≤ W.heap.size := by
  obtain ⟨_, _, _, _, _, _, _, _, _, _, _, _, P⟩ := h
  exact Nat.le_trans P.hbp (Nat.le_of_lt (lt_of P.blk))
/-- The pair at its beginning. -/
theorem pair0 (w : World) : PE 0 0 w.heap.size (((((w.alloc (.cells z60.toArray 60)).alloc (.cells z50.toArray 50)).alloc (.cells #[.slice none 0 0] 63)).alloc (.cells #[.slice none 0 0] 66)).alloc (.cells #[ptr w.heap.size, ptr (w.heap.size + 1), ptr (w.heap.size + 2), ptr (w.heap.size + 3), .slice none 0 0, .slice none 0 0] 70)) (w.heap.size + 4) 0 := by
  have a : ∀ k, Av 0 0 k := fun k => .inr (Nat.zero_le _)
  have nb : ∀ g, (Value.slice none 0 0).ownBlock = some g → Av 0 0 g := fun _ _ => a _
  obtain ⟨wa, hwa⟩ : ∃ wa, w.alloc (.cells z60.toArray 60) = wa := ⟨_, rfl⟩
  obtain ⟨wb, hwb⟩ : ∃ wb, wa.alloc (.cells z50.toArray 50) = wb := ⟨_, rfl⟩
  obtain ⟨wc, hwc⟩ : ∃ wc, wb.alloc (.cells #[.slice none 0 0] 63) = wc := ⟨_, rfl⟩
  obtain ⟨wd, hwd⟩ : ∃ wd, wc.alloc (.cells #[.slice none 0 0] 66) = wd := ⟨_, rfl⟩
  rw [hwa, hwb, hwc, hwd]
  have s1 : wa.heap.size = w.heap.size + 1 := by rw [← hwa]; simp
  have s2 : wb.heap.size = w.heap.size + 2 := by rw [← hwb]; simp; omega
  have s3 : wc.heap.size = w.heap.size + 3 := by rw [← hwc]; simp; omega
  have s4 : wd.heap.size = w.heap.size + 4 := by rw [← hwd]; simp; omega
  have q1 : wa.heap[w.heap.size]? = some (.cells z60.toArray 60 (0, 0)) := by rw [← hwa]; exact heap_alloc_new w _
  have q2 : wb.heap[w.heap.size + 1]? = some (.cells z50.toArray 50 (0, 0)) := by rw [← hwb, ← s1]; exact heap_alloc_new wa _
  have q3 : wc.heap[w.heap.size + 2]? = some (.cells [Value.slice none 0 0].toArray 63 (0, 0)) := by rw [← hwc, ← s2]; exact heap_alloc_new wb _
  have q4 : wd.heap[w.heap.size + 3]? = some (.cells [Value.slice none 0 0].toArray 66 (0, 0)) := by rw [← hwd, ← s3]; exact heap_alloc_new wc _
  have kb : ∀ k, k < wa.heap.size → wb.heap[k]? = wa.heap[k]? := fun k hk => by rw [← hwb]; exact Below.heap_alloc wa _ k hk
  have kc : ∀ k, k < wb.heap.size → wc.heap[k]? = wb.heap[k]? := fun k hk => by rw [← hwc]; exact Below.heap_alloc wb _ k hk
  have kd : ∀ k, k < wc.heap.size → wd.heap[k]? = wc.heap[k]? := fun k hk => by rw [← hwd]; exact Below.heap_alloc wc _ k hk
  have ke := fun k (hk : k < wd.heap.size) => Below.heap_alloc wd (.cells #[ptr w.heap.size, ptr (w.heap.size + 1), ptr (w.heap.size + 2), ptr (w.heap.size + 3), .slice none 0 0, .slice none 0 0] 70) k hk
  refine PX.pe (bd := w.heap.size) (br := w.heap.size + 1) (be := w.heap.size + 2) (bq := w.heap.size + 3) (gv := .slice none 0 0) (gr := .slice none 0 0) (ev := .slice none 0 0) (qv := .slice none 0 0) (vs := []) (ws := []) (D := []) (R := []) ?_
  refine ⟨by rw [← s4]; exact heap_alloc_new wd _, by omega, a _, ⟨?_, by simp⟩, by omega, a _, ⟨?_, by simp⟩, by omega, a _, ⟨?_, World.ownsRow_nil _ _ _ _, by omega, by simp⟩, a _, nb, ⟨?_, World.ownsRow_nil _ _ _ _, by omega, by simp⟩, a _, nb, ⟨World.ownsRow_nil _ _ _ _, World.ownsRow_nil _ _ _ _, fun i v h => by simp at h, fun i v h => by simp at h, nb, nb, fun _ _ _ _ => a _, fun _ _ _ _ => a _⟩⟩
  · exact (ke _ (by omega)).trans ((kd _ (by omega)).trans ((kc _ (by omega)).trans ((kb _ (by omega)).trans q1)))
  · exact (ke _ (by omega)).trans ((kd _ (by omega)).trans ((kc _ (by omega)).trans q2))
  · exact (ke _ (by omega)).trans ((kd _ (by omega)).trans q3)
  · exact (ke _ (by omega)).trans q4
set_option maxHeartbeats 4000000
set_option maxRecDepth 100000
theorem law_walk (hpl : PlaysOk) (p : Option Addr) (c : Nat) (ps : List OpD) (hlen : ps.length ≤ 140737488355328) (w : World) (h : ScS w p ps) :
    Calls Try.prog 6 #[.slice p ps.length c] w fun e w' => e = .returned (.bool true) ∧ Below w.heap.size w w' := by
  obtain ⟨w1, hw1⟩ : ∃ w1, ((((w.alloc (.cells z60.toArray 60)).alloc (.cells z50.toArray 50)).alloc (.cells #[.slice none 0 0] 63)).alloc (.cells #[.slice none 0 0] 66)).alloc (.cells #[.pointer (some ⟨w.heap.size, 0, none⟩), .pointer (some ⟨w.heap.size + 1, 0, none⟩), .pointer (some ⟨w.heap.size + 2, 0, none⟩), .pointer (some ⟨w.heap.size + 3, 0, none⟩), .slice none 0 0, .slice none 0 0] 70) = w1 := ⟨_, rfl⟩
  have hP : PE 0 0 w.heap.size w1 (w.heap.size + 4) 0 := by rw [← hw1]; exact pair0 w
  have hB : Below w.heap.size w w1 := by rw [← hw1]; exact (((((Below.refl _ _).alloc (Nat.le_refl _) _).alloc (by simp) _).alloc (by simp; omega) _).alloc (by simp; omega) _).alloc (by simp; omega) _
  have HP := hid hP
  have HB := hid hB
  have HS := hid h
  have HL := hid hpl
  clear hP hB h hpl
  go_enter Try.func6, Try.ntmps6
  go_wp2_with (first | (refine wpList_build60 rfl rfl ?_) | (refine wpList_build50 rfl rfl ?_))
  go_loopw [4] (fun j wr => ∃ (k nn : Nat), k ≤ ps.length ∧ k ≤ 300 ∧ nn ≤ 2 * k ∧ j = .int .i64 (k : Int) ∧ PE 0 0 w.heap.size wr (w.heap.size + 4) nn ∧ Below w.heap.size w wr) (fun j _ => 300 - (intOf j).toNat)
  case atStart => exact ⟨0, 0, by omega, by omega, by omega, rfl, HP.out, HB.out⟩
  case round =>
    obtain ⟨k, nn, hk1, hk2, hnn, rfl, hP, hB⟩ := hrel
    by_cases hlt : k < ps.length ∧ k < 300
    · have i1 : decide ((k : Int) < (ps.length : Int)) = true := decide_eq_true (by omega)
      have i2 : decide ((k : Int) < (300 : Int)) = true := decide_eq_true (by omega)
      have i3 : (k : Int) < (ps.length : Int) := by omega
      obtain ⟨⟨b, o, hpb, e0, e1, e2, e3, e4⟩, x, y, hl, hm⟩ := HS.out k ps[k] (List.getElem?_eq_getElem hlt.1)
      generalize ps[k] = t at *
      have hbw : b < w.heap.size := World.block_lt_of_cell? w _ e0
      have hkb : ∀ W, Below w.heap.size w W → W.heap[b]? = w.heap[b]? := fun W hb => hb.block b hbw
      have g0 := (World.cell?_of_block (w := w) (a := ⟨b, o + k * 5, none⟩) (hkb wr hB)).trans e0
      have g1 := (World.cell?_of_block (w := w) (a := ⟨b, o + k * 5 + 1, none⟩) (hkb wr hB)).trans e1
      have g2 := (World.cell?_of_block (w := w) (a := ⟨b, o + k * 5 + 2, none⟩) (hkb wr hB)).trans e2
      have g3 := (World.cell?_of_block (w := w) (a := ⟨b, o + k * 5 + 3, none⟩) (hkb wr hB)).trans e3
      have g4 := (World.cell?_of_block (w := w) (a := ⟨b, o + k * 5 + 4, none⟩) (hkb wr hB)).trans e4
      have hp := HL.out w.heap.size (w.heap.size + 4) nn t.k t.a t.b t.v t.u t.l t.m w wr ⟨rfl, x, y, hl, hm⟩ hB hP (by omega)
      have HKB := hid (fun W hb => (World.cell?_of_block (w := w) (a := ⟨b, o + k * 5, none⟩) (hkb W hb)).trans e0)
      obtain ⟨pv, cv, hv, _, _⟩ := x.ex
      obtain ⟨pu, cu, hu, _, _⟩ := y.ex
      rw [hv, hu] at hp
      rw [hv] at g3
      rw [hu] at g4
      unfold opc at hp
      clear HP HB hP hB e0 e1 e2 e3 e4 x y hl hm hkb hv hu
      subst hpb
      go_wp2_with fail
      refine hp.mono ?_
      rintro e w2 ⟨rfl, P2, b2⟩
      have x0 := HKB.out w2 b2
      have HP2 := hid P2
      have HB2 := hid b2
      clear hp P2 b2 g0 g1 g2 g3 g4
      go_upto_region 7 with fail
      go_cut [55] (fun s wc => s = .bool false ∧ ∃ n2, n2 ≤ nn + 2 ∧ PE 0 0 w.heap.size wc (w.heap.size + 4) n2 ∧ Below w.heap.size w wc)
      case first =>
        have hs := same_pe w.heap.size (w.heap.size + 4) nn w2 HP2.out (by omega)
        by_cases a1 : Int.tmod (k : Int) 8 = 0
        · as_aux_lemma =>
            have d1 : (Int.tmod (k : Int) 8 == 0) = true := by simpa using a1
            go_wp2_with fail
            refine hs.mono ?_
            rintro e w3 ⟨rfl, P3, b3⟩
            have HP3 := hid P3
            have HB3 := hid (HB2.out.trans b3)
            clear hs P3 b3
            go_wp2
            go_meet
            case rel => exact ⟨rfl, nn + 2, by omega, HP3.out, HB3.out⟩
        · have d1 : (Int.tmod (k : Int) 8 == 0) = false := by simpa using a1
          by_cases a2 : t.k = 4
          · as_aux_lemma =>
              have d2 : (t.k == 4) = true := by simpa using a2
              go_wp2_with fail
              refine hs.mono ?_
              rintro e w3 ⟨rfl, P3, b3⟩
              have HP3 := hid P3
              have HB3 := hid (HB2.out.trans b3)
              clear hs P3 b3
              go_wp2
              go_meet
              case rel => exact ⟨rfl, nn + 2, by omega, HP3.out, HB3.out⟩
          · have d2 : (t.k == 4) = false := by simpa using a2
            by_cases a3 : t.k = 9
            · as_aux_lemma =>
                have d3 : (t.k == 9) = true := by simpa using a3
                go_wp2_with fail
                refine hs.mono ?_
                rintro e w3 ⟨rfl, P3, b3⟩
                have HP3 := hid P3
                have HB3 := hid (HB2.out.trans b3)
                clear hs P3 b3
                go_wp2
                go_meet
                case rel => exact ⟨rfl, nn + 2, by omega, HP3.out, HB3.out⟩
            · as_aux_lemma =>
                have d3 : (t.k == 9) = false := by simpa using a3
                clear hs
                go_wp2
                go_meet
                case rel => exact ⟨rfl, nn, by omega, HP2.out, HB2.out⟩
      case rest =>
        obtain ⟨rfl, n2, hn2, P4, b4⟩ := hcut
        have HP4 := hid P4
        have HB4 := hid b4
        clear P4 b4 HP2 HB2 x0
        go_wp2
        go_roundw
        case rel => exact ⟨k + 1, n2, by omega, by omega, by omega, by go_num, HP4.out, HB4.out⟩
        case measure => first | (simp [intOf]; done) | (simp [intOf]; omega)
    · have hP' := hid hP
      have hB' := hid hB
      have s1 := hid (same_pe w.heap.size (w.heap.size + 4) nn wr hP (by omega))
      clear hP hB HP HB
      have hend : (decide ((k : Int) < (ps.length : Int)) = false) ∨ (decide ((k : Int) < (ps.length : Int)) = true ∧ decide ((k : Int) < (300 : Int)) = false) := by
        by_cases c1 : k < ps.length
        · exact .inr ⟨decide_eq_true (by omega), decide_eq_false (by omega)⟩
        · exact .inl (decide_eq_false (by omega))
      rcases hend with i1 | ⟨i1, i2⟩
      all_goals go_wp2_with fail
      all_goals
        refine s1.out.mono ?_
        rintro e w3 ⟨rfl, P3, b3⟩
        have HP3 := hid P3
        have HB3 := hid (hB'.out.trans b3)
        clear s1 P3 b3 hP' hB'
        go_wp2_with fail
        refine (still_pe w.heap.size (w.heap.size + 4) (nn + 2) w3 HP3.out (by omega)).mono ?_
        rintro e w4 ⟨rfl, hw4⟩
        obtain rfl := hw4.symm
        go_wp2_with fail
        refine (same_pe w.heap.size (w.heap.size + 4) (nn + 2) w3 HP3.out (by omega)).mono ?_
        rintro e w4 ⟨rfl, P4, b4⟩
        have HP4 := hid P4
        have HB4 := hid (HB3.out.trans b4)
        clear P4 b4 HP3 HB3
        go_wp2_with fail
        refine (fixed_any w4).mono ?_
        rintro e w5 ⟨rfl, b5⟩
        have HB5 := hid (HB4.out.trans (b5.mono HB4.out.size))
        clear b5
        go_wp2
        go_ret
        exact ⟨rfl, HB5.out⟩
end Go.Proofs.Ytcnhfgoflfnocaa
