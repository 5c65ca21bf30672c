import Derived.Test.YtokhlcioekbjdaaKOff
import Derived.Test.YtokhlcioekbjdaaKRSame
import Derived.Test.YtokhlcioekbjdaaKNames
import Derived.Test.YtokhlcioekbjdaaKApartK
import Derived.Deep.RegionHeldLaw
/-! TokenPlaces. -/
namespace Go.Proofs.Ytokhlcioekbjdaa.K
open Go.RowKit
open Go.Proofs
open Go.Proofs.Ytokhlcioekbjdaa
open Go.Proofs.Ytokhlcioekbjdaa.T (size_list numE numC place)
set_option linter.unusedVariables false
set_option linter.unusedSimpArgs false
set_option maxHeartbeats 1500000
set_option maxRecDepth 20000

theorem i64_id (x : Int) (h0 : 0 ≤ x) (h1 : x < 9223372036854775808) : IntKind.i64.wrap x = x := by
  simp [IntKind.wrap, IntKind.bits, IntKind.signed]; omega
theorem ext0_list (s : ByteArray) (m : Nat) (h : m ≤ s.size) : (s.extract 0 m).data.toList = s.data.toList.take m := by
  rw [ext_list]; unfold wd; simp
theorem ext0_size (s : ByteArray) (m : Nat) (h : m ≤ s.size) : (s.extract 0 m).size = m := by rw [ByteArray.size_extract]; omega
theorem ba_ext {a b : ByteArray} (h : a.data.toList = b.data.toList) : a = b := by
  obtain ⟨⟨x⟩⟩ := a; obtain ⟨⟨y⟩⟩ := b; simp only at h; subst h; rfl
theorem ext_ext (s : ByteArray) (m i j : Nat) (hm : m ≤ s.size) (hj : j ≤ m) : (s.extract 0 m).extract i j = s.extract i j := by
  apply ba_ext; rw [ext_list (s.extract 0 m) i j, ext0_list s m hm, ext_list s i j, wd_take _ _ _ _ hj]
theorem tk_ext (s : ByteArray) (m : Nat) (q : Nat × Nat) (hm : m ≤ s.size) (hq : q.2 ≤ m) (h1 : q.1 ≤ m) : tk (s.extract 0 m) q = tk s q := by
  unfold tk; rw [ext_ext s m q.1 q.2 hm hq, ext0_list s m hm, wd_take _ _ _ _ hq, place_take _ _ _ h1]
/-- What Scan answers of a beginning up to an error, and up to a word's end. -/
theorem ans_ahead (s : ByteArray) (hs : s.size ≤ 65536) (a : List (Nat × Nat)) (i : Nat) (er : Int) (h : sc s.data.toList = (a, i, er)) : ∃ ts, ans (s.extract 0 i) = (ts, (0, 0), 0) := by
  have hi : i ≤ s.size := by have := (sc_in s.data.toList).2.1; rw [h, size_list] at this; exact this
  have h1 := sc_ahead s.data.toList
  rw [h] at h1
  simp only at h1
  unfold ans
  rw [if_neg (by rw [ext0_size s i hi]; omega), ext0_list s i hi, h1]
  exact ⟨_, rfl⟩
theorem ans_word (s : ByteArray) (hs : s.size ≤ 65536) (a : List (Nat × Nat)) (i : Nat) (h : sc s.data.toList = (a, i, 0)) (k : Nat) (hk : k < a.length) : ans (s.extract 0 a[k].2) = ((a.take (k + 1)).map (tk s), (0, 0), 0) := by
  have hp := sc_pre s.data.toList
  rw [h] at hp
  simp only at hp
  have hin := (sc_in s.data.toList)
  rw [h, size_list] at hin
  have hk2 := hin.2.2 a[k] (List.getElem_mem hk)
  have h1 := hp.toks k hk
  unfold ans
  rw [if_neg (by rw [ext0_size s _ hk2.2]; omega), ext0_list s _ hk2.2, h1]
  simp only [if_true]
  congr 1
  apply List.map_congr_left
  intro q hq
  obtain ⟨n, hn, rfl⟩ := List.mem_iff_getElem.1 hq
  rw [List.getElem_take]
  have hnk : n ≤ k := by rw [List.length_take] at hn; omega
  have hna : n < a.length := by omega
  have hle : a[n].2 ≤ a[k].2 := by
    by_cases e : n = k
    · subst e; exact Nat.le_refl _
    · have : ∀ d, n + d < a.length → a[n].2 ≤ (a[n + d]!).2 := by
        intro d
        induction d with
        | zero => intro hd; simp [hna]
        | succ d ih =>
          intro hd
          have h2 := ih (by omega)
          have h3 := hp.rise (n + d) (by omega)
          have h4 := (hp.ends (n + d + 1) (by omega)).1
          have e1 : a[n + d]! = a[n + d]'(by omega) := by simp [show n + d < a.length by omega]
          have e2 : a[n + (d + 1)]! = a[n + d + 1]'(by omega) := by simp [show n + (d + 1) < a.length by omega, Nat.add_assoc]
          rw [e1] at h2; rw [e2]; omega
      have h5 := this (k - n) (by omega)
      have e3 : a[n + (k - n)]! = a[k] := by simp [show n + (k - n) = k by omega, hk]
      rw [e3] at h5; exact h5
  have h6 := (hp.ends n hna).1
  exact tk_ext s a[k].2 a[n] hk2.2 hle (by omega)
/-- Where the word ahead ended. -/
def lst (a : List (Nat × Nat)) : Nat → Nat
  | 0 => 0
  | k + 1 => (a.getD k (0, 0)).2
theorem places_walk (h : ByteArray) (hs : h.size ≤ 140737488355328) (w : World) : Calls Try.prog 4 #[.string h] w fun e w' => e = .returned (.bool true) ∧ Below w.heap.size w w' := by
  go_enter Try.func4, Try.ntmps4
  go_upto_if 19 with fail
  go_cut [0] (fun x wc => ∃ hd : ByteArray, x = .string hd ∧ hd.size ≤ 3000 ∧ wc = w)
  case first =>
    by_cases q : 3000 < h.size
    · have d1 : decide ((3000 : Int) < (h.size : Int)) = true := decide_eq_true (by omega)
      have d2 : 3000 ≤ h.size := by omega
      go_wp2
      go_meet
      case rel => exact ⟨h.extract 0 3000, rfl, by rw [ByteArray.size_extract]; omega, rfl⟩
    · have d1 : decide ((3000 : Int) < (h.size : Int)) = false := decide_eq_false (by omega)
      go_wp2
      go_meet
      case rel => exact ⟨h, rfl, by omega, rfl⟩
  case rest =>
    obtain ⟨s, rfl, hss, hwc⟩ := hcut
    obtain rfl := hwc.symm
    clear hs
    obtain ⟨a, i, er, hsc⟩ : ∃ a i er, sc s.data.toList = (a, i, er) := ⟨_, _, _, rfl⟩
    have hi : i ≤ s.size := by have := (sc_in s.data.toList).2.1; rw [hsc, size_list] at this; exact this
    have HSC := hid hsc
    by_cases he : er = 0
    case neg =>
      have hS := scan_err s (by omega) er i a hsc he w
      obtain ⟨ts, hans⟩ := ans_ahead s (by omega) a i er hsc
      have hS2 := fun W => scanw_any (s.extract 0 i) (by rw [ext0_size s i hi]; omega) W
      rw [hans] at hS2
      simp only at hS2
      have hO := fun W => offset_any s (by omega) i hi W
      have hE := fun W => end_any (s.extract 0 i) (by rw [ext0_size s i hi]; omega) W
      rw [ext0_list s i hi, ext0_size s i hi, place_take _ _ _ (Nat.le_refl _)] at hE
      have herr : er = 91 ∨ er = 92 ∨ er = 93 ∨ er = 21 := by
        have := sc_err s.data.toList
        rw [hsc] at this
        simp only at this
        omega
      have e1 : decide (er = 0) = false := decide_eq_false he
      have hiI : (i : Int) ≤ s.size := by omega
      clear hsc hans
      generalize place s.data.toList i = p at *
      simp only [pv, pc] at hE hO
      have hqe := fun W => eql_pos W p.1 p.2
      go_wp2_with fail
      refine hS.mono ?_
      rintro e w1 ⟨⟨v1, rfl, o1⟩, h1⟩
      obtain ⟨pa1, ca1, hv1⟩ := own_val o1
      have hv1 : v1 = .slice pa1 0 ca1 := hv1
      subst hv1
      obtain ⟨U1, V1, hU1, hz1, hV1, hb1, p1, q1⟩ := pos_row w1 p
      have HB := hid (trB h1 hb1 h1.size)
      clear h1 hb1 o1 hS
      go_wp2_with (refine wpList_store_row rfl 24 _ _ rfl w1.heap.size _ rfl rfl 24 #[.int .i64 0, .int .i64 0] hz1 (by exact sizeP) (by rfl) (by simp [Value.oneCell', pc]) ?_)
      refine (fixed_any _).mono ?_
      rintro e w2 ⟨rfl, h2⟩
      have p1 := below_cell h2 _ _ p1
      have q1 := below_cell h2 _ _ q1
      have HB := hid (trB HB.out h2 HB.out.size)
      clear h2
      go_wp2_with fail
      refine (hO _).mono ?_
      rintro e w3 ⟨rfl, h3⟩
      have p1 := below_cell h3 _ _ p1
      have q1 := below_cell h3 _ _ q1
      have HB := hid (trB HB.out h3 HB.out.size)
      clear h3
      go_upto_region 8 with fail
      go_cut [57] (fun x wc => x = .bool false ∧ wc = w3)
      case first =>
        rcases herr with rfl | rfl | rfl | rfl
        · go_wp2
          go_meet
          case rel => exact ⟨rfl, rfl⟩
        · go_wp2
          go_meet
          case rel => exact ⟨rfl, rfl⟩
        · go_wp2
          go_meet
          case rel => exact ⟨rfl, rfl⟩
        · go_wp2
          go_meet
          case rel => exact ⟨rfl, rfl⟩
      case rest =>
        obtain ⟨hc1, hc2⟩ := hcut
        subst hc1 hc2
        go_wp2_with fail
        refine (hS2 _).mono ?_
        rintro e w4 ⟨⟨v4, rfl, o4⟩, h4⟩
        obtain ⟨pa4, ca4, rfl⟩ := own_val o4
        obtain ⟨U4, V4, hU4, hz4, hV4, hb4, p4, q4⟩ := pos_row w4 (0, 0)
        have h4b := trB h4 hb4 h4.size
        have p1 := below_cell h4b _ _ p1
        have q1 := below_cell h4b _ _ q1
        have HB := hid (trB HB.out h4b HB.out.size)
        clear h4 hb4 h4b o4 p4 q4
        go_upto_region 11 with (refine wpList_store_row rfl 24 _ _ rfl w4.heap.size _ rfl rfl 24 #[.int .i64 0, .int .i64 0] hz4 (by exact sizeP) (by rfl) (by simp [Value.oneCell', pc]) ?_)
        try simp only [Act.put, List.getElem_toArray, List.getElem_cons_zero, List.getElem_cons_succ, List.setIfInBounds_toArray, List.set_cons_zero, List.set_cons_succ]
        have s0 : (fun wz => wz.cell? ⟨w1.heap.size, 0, none⟩ = some (.int .i64 p.1) ∧ wz.cell? ⟨w1.heap.size, 1, none⟩ = some (.int .i64 p.2)) V4.drew := ⟨p1, q1⟩
        refine wp_region_held_drew (S := (fun wz => wz.cell? ⟨w1.heap.size, 0, none⟩ = some (.int .i64 p.1) ∧ wz.cell? ⟨w1.heap.size, 1, none⟩ = some (.int .i64 p.2))) (by kernel_rfl) s0 (fun hHeld => ?_)
        have hbd : Below V4.heap.size V4 V4.drew := (Below.refl _ _).drew
        generalize hWd : V4.drew = Wd at *
        refine wpAnyH_take (i := 0) (v := ?_) rfl (by kernel_rfl) (by kernel_rfl) (by kernel_rfl) (fun c a w h => h) (Or.inl ⟨by rfl, ?_⟩) hHeld ?_
        rotate_left
        · (intro w hSw; (try dsimp only at hSw); go_simp; try with_reducible rfl)
        simp only [Act.put, List.getElem_toArray, List.getElem_cons_zero, List.getElem_cons_succ, List.setIfInBounds_toArray, List.set_cons_zero, List.set_cons_succ]
        refine wpAnyH_take (i := 1) (v := ?_) rfl (by kernel_rfl) (by kernel_rfl) (by kernel_rfl) (fun c a w h => h) (Or.inl ⟨by rfl, ?_⟩) hHeld ?_
        rotate_left
        · (intro w hSw; (try dsimp only at hSw); go_simp; try with_reducible rfl)
        simp only [Act.put, List.getElem_toArray, List.getElem_cons_zero, List.getElem_cons_succ, List.setIfInBounds_toArray, List.set_cons_zero, List.set_cons_succ]
        refine wpAnyH_take (i := 2) (v := ?_) rfl (by kernel_rfl) (by kernel_rfl) (by kernel_rfl) (fun c a w h => h) (Or.inl ⟨by rfl, ?_⟩) hHeld ?_
        rotate_left
        · (intro w hSw; (try dsimp only at hSw); go_simp; try with_reducible rfl)
        simp only [Act.put, List.getElem_toArray, List.getElem_cons_zero, List.getElem_cons_succ, List.setIfInBounds_toArray, List.set_cons_zero, List.set_cons_succ]
        refine wpAnyH_take (i := 3) (v := ?_) rfl (by kernel_rfl) (by kernel_rfl) (by kernel_rfl) (fun c a w h => h) (Or.inl ⟨by rfl, ?_⟩) hHeld ?_
        rotate_left
        · (intro w hSw; (try dsimp only at hSw); go_simp; try with_reducible rfl)
        simp only [Act.put, List.getElem_toArray, List.getElem_cons_zero, List.getElem_cons_succ, List.setIfInBounds_toArray, List.set_cons_zero, List.set_cons_succ]
        refine wpAnyH_take (i := 4) (v := ?_) rfl (by kernel_rfl) (by kernel_rfl) (by kernel_rfl) (fun c a w h => h) (Or.inl ⟨by rfl, ?_⟩) hHeld ?_
        rotate_left
        · (intro w hSw; (try dsimp only at hSw); go_simp; try with_reducible rfl)
        simp only [Act.put, List.getElem_toArray, List.getElem_cons_zero, List.getElem_cons_succ, List.setIfInBounds_toArray, List.set_cons_zero, List.set_cons_succ]
        refine wpAnyH_take (i := 5) (v := ?_) rfl (by kernel_rfl) (by kernel_rfl) (by kernel_rfl) (fun c a w h => h) (Or.inl ⟨by rfl, ?_⟩) hHeld ?_
        rotate_left
        · (intro w hSw; (try dsimp only at hSw); go_simp; try with_reducible rfl)
        simp only [Act.put, List.getElem_toArray, List.getElem_cons_zero, List.getElem_cons_succ, List.setIfInBounds_toArray, List.set_cons_zero, List.set_cons_succ]
        refine wpAnyH_take (i := 7) (v := ?_) rfl (by kernel_rfl) (by kernel_rfl) (by kernel_rfl) (fun c a w h => h) (Or.inl ⟨by rfl, ?_⟩) hHeld ?_
        rotate_left
        · (intro w hSw; (try dsimp only at hSw); go_simp; try with_reducible rfl)
        simp only [Act.put, List.getElem_toArray, List.getElem_cons_zero, List.getElem_cons_succ, List.setIfInBounds_toArray, List.set_cons_zero, List.set_cons_succ]
        refine wpAnyH_ready (rs := [6]) (by kernel_rfl) (by simp) ?_
        refine AllReadyH.cons rfl (fun K hK => ?_) AllReadyH.nil
        go_simp
        refine (hE _).mono ?_
        rintro e w7 ⟨rfl, h7⟩
        have s1 : (fun wz => wz.cell? ⟨w1.heap.size, 0, none⟩ = some (.int .i64 p.1) ∧ wz.cell? ⟨w1.heap.size, 1, none⟩ = some (.int .i64 p.2)) w7 := ⟨below_cell h7 _ _ s0.1, below_cell h7 _ _ s0.2⟩
        refine hK.out _ _ s1 (fun hHeld => ?_)
        clear hK K
        try simp only [Act.put, List.getElem_toArray, List.getElem_cons_zero, List.getElem_cons_succ, List.setIfInBounds_toArray, List.set_cons_zero, List.set_cons_succ]
        refine wpAnyH_take (i := 8) (v := ?_) rfl (by kernel_rfl) (by kernel_rfl) (by kernel_rfl) (fun c a w h => h) (Or.inl ⟨by rfl, ?_⟩) hHeld ?_
        rotate_left
        · (intro w hSw; (try dsimp only at hSw); go_simp; try with_reducible rfl)
        simp only [Act.put, List.getElem_toArray, List.getElem_cons_zero, List.getElem_cons_succ, List.setIfInBounds_toArray, List.set_cons_zero, List.set_cons_succ]
        refine wpAnyH_take (i := 9) (v := ?_) rfl (by kernel_rfl) (by kernel_rfl) (by kernel_rfl) (fun c a w h => h) (Or.inl ⟨by rfl, ?_⟩) hHeld ?_
        rotate_left
        · (intro w hSw; (try dsimp only at hSw); go_simp; try with_reducible rfl)
        simp only [Act.put, List.getElem_toArray, List.getElem_cons_zero, List.getElem_cons_succ, List.setIfInBounds_toArray, List.set_cons_zero, List.set_cons_succ]
        refine wpAnyH_take (i := 10) (v := ?_) rfl (by kernel_rfl) (by kernel_rfl) (by kernel_rfl) (fun c a w h => h) (Or.inl ⟨by rfl, ?_⟩) hHeld ?_
        rotate_left
        · (intro w hSw; (try dsimp only at hSw); go_simp; try with_reducible rfl)
        simp only [Act.put, List.getElem_toArray, List.getElem_cons_zero, List.getElem_cons_succ, List.setIfInBounds_toArray, List.set_cons_zero, List.set_cons_succ]
        refine wpAnyH_done (by kernel_rfl) ?_ _
        clear hHeld
        try simp only [Act.put, List.getElem_toArray, List.getElem_cons_zero, List.getElem_cons_succ, List.setIfInBounds_toArray, List.set_cons_zero, List.set_cons_succ]
        go_wp2_with fail
        go_ret
        exact ⟨rfl, trB (trB HB.out hbd HB.out.size) h7 (Nat.le_trans HB.out.size hbd.size)⟩
    case pos =>
      subst he
      have hS := scan_ok s (by omega) i a hsc w
      have hpre := sc_pre s.data.toList
      rw [hsc] at hpre
      simp only at hpre
      have hin := sc_in s.data.toList
      rw [hsc, size_list] at hin
      simp only at hin
      have HPRE := hid hpre
      have HIN := hid hin.2.2
      have hal : a.length ≤ 3000 := by have := hin.1; omega
      have hq0 := fun W => eql_pos W 0 0
      clear hpre hin hsc
      go_wp2_with fail
      refine hS.mono ?_
      rintro e w1 ⟨⟨v1, rfl, o1⟩, h1⟩
      rw [len_map] at o1
      obtain ⟨pa1, ca1, rfl⟩ := own_val o1
      obtain ⟨U1, V1, hU1, hz1, hV1, hb1, p1, q1⟩ := pos_row w1 (0, 0)
      have HB := hid (trB h1 hb1 h1.size)
      have o1 := own_below o1 hb1
      simp only at p1 q1
      clear h1 hb1 hS
      go_wp2_with (refine wpList_store_row rfl 24 _ _ rfl w1.heap.size _ rfl rfl 24 #[.int .i64 0, .int .i64 0] hz1 (by exact sizeP) (by rfl) (by simp [Value.oneCell', pc]) ?_)
      refine (fixed_any _).mono ?_
      rintro e w2 ⟨rfl, h2⟩
      have p1 := below_cell h2 _ _ p1
      have q1 := below_cell h2 _ _ q1
      have o1 := own_below o1 h2
      have HB := hid (trB HB.out h2 HB.out.size)
      have HO := hid o1
      have HP := hid (And.intro p1 q1)
      clear h2 o1 p1 q1
      go_wp2_with fail
      go_loopw [10, 11] (fun x10 x11 wr => ∃ k : Nat, x11 = .int .i64 (k : Int) ∧ k ≤ a.length ∧ x10 = .int .i64 (lst a k : Int) ∧ wr.ownsRow w.heap.size 30 5 (.slice pa1 a.length ca1) a.length (S.en eT (a.map (tk s))) ∧ wr.cell? ⟨w1.heap.size, 0, none⟩ = some (.int .i64 0) ∧ wr.cell? ⟨w1.heap.size, 1, none⟩ = some (.int .i64 0) ∧ Below w.heap.size w wr) (fun _ x _ => a.length - (Lib.intOf x).toNat)
      case atStart => exact ⟨0, rfl, Nat.zero_le _, rfl, HO.out, HP.out.1, HP.out.2, HB.out⟩
      case round =>
        clear HO HP HB
        obtain ⟨k, rfl, hk, rfl, hO1, p1, q1, hB1⟩ := hrel
        by_cases hlt : k < a.length ∧ k < 200
        case neg =>
          have HB := hid hB1
          clear hB1 hO1
          have d0 : ¬ ((k : Int) < (a.length : Int) ∧ (k : Int) < 200) := by omega
          by_cases d1 : (k : Int) < (a.length : Int)
          · have d2 : decide ((k : Int) < 200) = false := decide_eq_false (by omega)
            go_wp2_with fail
            go_ret
            exact ⟨rfl, HB.out⟩
          · have d2 : decide ((k : Int) < (a.length : Int)) = false := decide_eq_false d1
            go_wp2_with fail
            go_ret
            exact ⟨rfl, HB.out⟩
        obtain ⟨hka, hk200⟩ := hlt
        have hbe := HIN.out a[k] (List.getElem_mem hka)
        have h31 := (HPRE.out.ends k hka).2.2
        have hlast : lst a k ≤ a[k].1 := by
          cases k with
          | zero => exact Nat.zero_le _
          | succ k =>
            show (a.getD k (0, 0)).2 ≤ _
            rw [List.getD_eq_getElem?_getD, List.getElem?_eq_getElem (show k < a.length by omega)]
            exact HPRE.out.rise k hka
        have hans := ans_word s (by omega) a i HSC.out k hka
        obtain ⟨g, c, hgv, hgl, _, hcs⟩ := tok_cells (ts := a.map (tk s)) (by rw [len_map]; exact hO1) (by rw [len_map]; omega)
        have hgv2 : pa1 = some ⟨g, 0, none⟩ := by simp only [len_map, Value.slice.injEq] at hgv; exact hgv.1
        subst hgv2
        obtain ⟨c0, c1, c2, c3, c4⟩ := hcs k (tk s a[k]) (by rw [List.getElem?_map, List.getElem?_eq_getElem hka]; rfl)
        have hmk : ((a.take (k + 1)).map (tk s))[k]? = some (tk s a[k]) := by rw [List.getElem?_map, List.getElem?_take, if_pos (by omega), List.getElem?_eq_getElem hka]; rfl
        have hml : ((a.take (k + 1)).map (tk s)).length = k + 1 := by rw [len_map, List.length_take]; omega
        generalize (a.take (k + 1)).map (tk s) = tm at *
        have hlst : lst a (k + 1) = a[k].2 := by
          show (a.getD k (0, 0)).2 = _
          rw [List.getD_eq_getElem?_getD, List.getElem?_eq_getElem hka]; rfl
        generalize a[k] = t at *
        obtain ⟨b, e2⟩ := t
        obtain ⟨n, rfl⟩ : ∃ n, e2 = b + n := ⟨e2 - b, by simp only at hbe; omega⟩
        simp only [tk] at c0 c1 c2 c3 c4
        simp only at hbe h31 hlast hans hlst
        have hn1 : 1 ≤ n := by omega
        have hn31 : n ≤ 31 := by omega
        have hszT : (s.extract b (b + n)).size = n := by rw [ext_size _ _ _ hbe.2]; omega
        have hOf := fun W => offset_any s (by omega) b (by omega) W
        have hE := fun W => end_any (s.extract 0 b) (by rw [ext0_size s b (by omega)]; omega) W
        rw [ext0_list s b (by omega), ext0_size s b (by omega), place_take _ _ _ (Nat.le_refl _)] at hE
        have hSc := fun W => scanw_any (s.extract 0 (b + n)) (by rw [ext0_size s _ hbe.2]; omega) W
        rw [hans] at hSc
        simp only [tk] at hmk
        generalize hplv : place s.data.toList b = pl at *
        generalize kd (wd s.data.toList b (b + n)) = kk at *
        generalize numC (wd s.data.toList b (b + n)) = vv at *
        simp only [pv, pc] at hOf hE
        simp only at hSc
        have hnp := fun W => neq_pos W pl.1 pl.2
        have hnt := fun W => neq_tok W kk (s.extract b (b + n)) vv pl.1 pl.2
        have i1 : (k : Int) < (a.length : Int) := by omega
        have i2 : (k : Int) < 200 := by omega
        have HOW := hid hO1
        have HB := hid hB1
        have HMK := hid hmk
        have HLST := hid hlst
        have hb0 : b ≤ s.size := by omega
        have hbn : b ≤ b + n := by omega
        have hbns : b + n ≤ s.size := hbe.2
        clear hO1 hB1 hcs hmk hlst hans hgv hgl hplv h31
        go_wp2_with fail
        refine (hOf _).mono ?_
        rintro e w3 ⟨rfl, h3⟩
        have c0 := below_cell h3 _ _ c0
        have c1 := below_cell h3 _ _ c1
        have c2 := below_cell h3 _ _ c2
        have c3 := below_cell h3 _ _ c3
        have c4 := below_cell h3 _ _ c4
        have p1 := below_cell h3 _ _ p1
        have q1 := below_cell h3 _ _ q1
        have HOW := hid (own_below HOW.out h3)
        have HB := hid (trB HB.out h3 HB.out.size)
        have d1 : decide ((b : Int) < (lst a k : Int)) = false := decide_eq_false (by omega)
        have d1n : decide (b < lst a k) = false := decide_eq_false (by omega)
        have d1i : ((lst a k : Nat) : Int) ≤ (b : Int) := by omega
        have d2n : decide (n < 1) = false := decide_eq_false (by omega)
        have d2i : (1 : Int) ≤ (n : Int) := by omega
        have d3n : decide (31 < n) = false := decide_eq_false (by omega)
        have d3i : (n : Int) ≤ 31 := by omega
        have d4i : (b : Int) + (n : Int) ≤ (s.size : Int) := by omega
        have d4a : decide (s.size < b + n) = false := decide_eq_false (by omega)
        have hwr : IntKind.i64.wrap ((b : Int) + (n : Int)) = (b : Int) + (n : Int) := i64_id _ (by omega) (by omega)
        have htn : ((b : Int) + (n : Int)).toNat = b + n := by omega
        have f1 : (0 : Int) ≤ (b : Int) + (n : Int) := by omega
        have f2 : (b : Int) ≤ (b : Int) + (n : Int) := by omega
        have d4b : decide ((s.size : Int) < ((b + n : Nat) : Int)) = false := decide_eq_false (by omega)
        have d2 : decide ((n : Int) < 1) = false := decide_eq_false (by omega)
        have d3 : decide ((31 : Int) < (n : Int)) = false := decide_eq_false (by omega)
        have d4 : decide ((s.size : Int) < (b : Int) + (n : Int)) = false := decide_eq_false (by omega)
        clear h3 hOf
        go_upto_region 18 with fail
        try simp only [Act.put, List.getElem_toArray, List.getElem_cons_zero, List.getElem_cons_succ, List.setIfInBounds_toArray, List.set_cons_zero, List.set_cons_succ]
        go_cut [143] (fun x wc => x = .bool false ∧ Below w3.heap.size w3 wc)
        case first =>
          skip
          have s0 : (fun wz => wz.cell? ⟨g, k * 5 + 1, none⟩ = some (.string (s.extract b (b + n))) ∧ wz.cell? ⟨g, k * 5 + 3, none⟩ = some (.int .i64 pl.1) ∧ wz.cell? ⟨g, k * 5 + 4, none⟩ = some (.int .i64 pl.2)) w3.drew := ⟨c1, c3, c4⟩
          refine wp_region_held_drew (S := (fun wz => wz.cell? ⟨g, k * 5 + 1, none⟩ = some (.string (s.extract b (b + n))) ∧ wz.cell? ⟨g, k * 5 + 3, none⟩ = some (.int .i64 pl.1) ∧ wz.cell? ⟨g, k * 5 + 4, none⟩ = some (.int .i64 pl.2))) (by kernel_rfl) s0 (fun hHeld => ?_)
          have hbd : Below w3.heap.size w3 w3.drew := (Below.refl _ _).drew
          generalize hWd : w3.drew = Wd at *
          refine wpAnyH_take (i := 0) (v := ?_) rfl (by kernel_rfl) (by kernel_rfl) (by kernel_rfl) (fun c a w h => h) (Or.inl ⟨by rfl, ?_⟩) hHeld ?_
          rotate_left
          · (intro w hSw; (try dsimp only at hSw); go_simp; try with_reducible rfl)
          simp only [Act.put, List.getElem_toArray, List.getElem_cons_zero, List.getElem_cons_succ, List.setIfInBounds_toArray, List.set_cons_zero, List.set_cons_succ]
          refine wpAnyH_take (i := 1) (v := ?_) rfl (by kernel_rfl) (by kernel_rfl) (by kernel_rfl) (fun c a w h => h) (Or.inl ⟨by rfl, ?_⟩) hHeld ?_
          rotate_left
          · (intro w hSw; (try dsimp only at hSw); go_simp; try with_reducible rfl)
          simp only [Act.put, List.getElem_toArray, List.getElem_cons_zero, List.getElem_cons_succ, List.setIfInBounds_toArray, List.set_cons_zero, List.set_cons_succ]
          refine wpAnyH_take (i := 2) (v := ?_) rfl (by kernel_rfl) (by kernel_rfl) (by kernel_rfl) (fun c a w h => h) (Or.inl ⟨by rfl, ?_⟩) hHeld ?_
          rotate_left
          · (intro w hSw; (try dsimp only at hSw); go_simp; try with_reducible rfl)
          simp only [Act.put, List.getElem_toArray, List.getElem_cons_zero, List.getElem_cons_succ, List.setIfInBounds_toArray, List.set_cons_zero, List.set_cons_succ]
          refine wpAnyH_take (i := 3) (v := ?_) rfl (by kernel_rfl) (by kernel_rfl) (by kernel_rfl) (fun c a w h => h) (Or.inl ⟨by rfl, ?_⟩) hHeld ?_
          rotate_left
          · (intro w hSw; (try dsimp only at hSw); go_simp; try with_reducible rfl)
          simp only [Act.put, List.getElem_toArray, List.getElem_cons_zero, List.getElem_cons_succ, List.setIfInBounds_toArray, List.set_cons_zero, List.set_cons_succ]
          refine wpAnyH_take (i := 4) (v := ?_) rfl (by kernel_rfl) (by kernel_rfl) (by kernel_rfl) (fun c a w h => h) (Or.inl ⟨by rfl, ?_⟩) hHeld ?_
          rotate_left
          · (intro w hSw; (try dsimp only at hSw); go_simp; try with_reducible rfl)
          simp only [Act.put, List.getElem_toArray, List.getElem_cons_zero, List.getElem_cons_succ, List.setIfInBounds_toArray, List.set_cons_zero, List.set_cons_succ]
          refine wpAnyH_take (i := 5) (v := ?_) rfl (by kernel_rfl) (by kernel_rfl) (by kernel_rfl) (fun c a w h => h) (Or.inl ⟨by rfl, ?_⟩) hHeld ?_
          rotate_left
          · (intro w hSw; (try dsimp only at hSw); go_simp; try with_reducible rfl)
          simp only [Act.put, List.getElem_toArray, List.getElem_cons_zero, List.getElem_cons_succ, List.setIfInBounds_toArray, List.set_cons_zero, List.set_cons_succ]
          refine wpAnyH_take (i := 6) (v := ?_) rfl (by kernel_rfl) (by kernel_rfl) (by kernel_rfl) (fun c a w h => h) (Or.inl ⟨by rfl, ?_⟩) hHeld ?_
          rotate_left
          · (intro w hSw; (try dsimp only at hSw); go_simp; try with_reducible rfl)
          simp only [Act.put, List.getElem_toArray, List.getElem_cons_zero, List.getElem_cons_succ, List.setIfInBounds_toArray, List.set_cons_zero, List.set_cons_succ]
          refine wpAnyH_take (i := 7) (v := ?_) rfl (by kernel_rfl) (by kernel_rfl) (by kernel_rfl) (fun c a w h => h) (Or.inl ⟨by rfl, ?_⟩) hHeld ?_
          rotate_left
          · (intro w hSw; (try dsimp only at hSw); go_simp; try with_reducible rfl)
          simp only [Act.put, List.getElem_toArray, List.getElem_cons_zero, List.getElem_cons_succ, List.setIfInBounds_toArray, List.set_cons_zero, List.set_cons_succ]
          refine wpAnyH_take (i := 8) (v := ?_) rfl (by kernel_rfl) (by kernel_rfl) (by kernel_rfl) (fun c a w h => h) (Or.inl ⟨by rfl, ?_⟩) hHeld ?_
          rotate_left
          · (intro w hSw; (try dsimp only at hSw); go_simp; try with_reducible rfl)
          simp only [Act.put, List.getElem_toArray, List.getElem_cons_zero, List.getElem_cons_succ, List.setIfInBounds_toArray, List.set_cons_zero, List.set_cons_succ]
          refine wpAnyH_take (i := 9) (v := ?_) rfl (by kernel_rfl) (by kernel_rfl) (by kernel_rfl) (fun c a w h => h) (Or.inl ⟨by rfl, ?_⟩) hHeld ?_
          rotate_left
          · (intro w hSw; (try dsimp only at hSw); go_simp; try with_reducible rfl)
          simp only [Act.put, List.getElem_toArray, List.getElem_cons_zero, List.getElem_cons_succ, List.setIfInBounds_toArray, List.set_cons_zero, List.set_cons_succ]
          refine wpAnyH_take (i := 10) (v := ?_) rfl (by kernel_rfl) (by kernel_rfl) (by kernel_rfl) (fun c a w h => h) (Or.inl ⟨by rfl, ?_⟩) hHeld ?_
          rotate_left
          · (intro w hSw; (try dsimp only at hSw); go_simp; try with_reducible rfl)
          simp only [Act.put, List.getElem_toArray, List.getElem_cons_zero, List.getElem_cons_succ, List.setIfInBounds_toArray, List.set_cons_zero, List.set_cons_succ]
          refine wpAnyH_take (i := 11) (v := ?_) rfl (by kernel_rfl) (by kernel_rfl) (by kernel_rfl) (fun c a w h => h) (Or.inl ⟨by rfl, ?_⟩) hHeld ?_
          rotate_left
          · (intro w hSw; (try dsimp only at hSw); go_simp; try with_reducible rfl)
          simp only [Act.put, List.getElem_toArray, List.getElem_cons_zero, List.getElem_cons_succ, List.setIfInBounds_toArray, List.set_cons_zero, List.set_cons_succ]
          refine wpAnyH_take (i := 12) (v := ?_) rfl (by kernel_rfl) (by kernel_rfl) (by kernel_rfl) (fun c a w h => h) (Or.inl ⟨by rfl, ?_⟩) hHeld ?_
          rotate_left
          · (intro w hSw; (try dsimp only at hSw); go_simp; try with_reducible rfl)
          simp only [Act.put, List.getElem_toArray, List.getElem_cons_zero, List.getElem_cons_succ, List.setIfInBounds_toArray, List.set_cons_zero, List.set_cons_succ]
          refine wpAnyH_take (i := 13) (v := ?_) rfl (by kernel_rfl) (by kernel_rfl) (by kernel_rfl) (fun c a w h => h) (Or.inl ⟨by rfl, ?_⟩) hHeld ?_
          rotate_left
          · (intro w hSw; (try dsimp only at hSw); go_simp; try with_reducible rfl)
          simp only [Act.put, List.getElem_toArray, List.getElem_cons_zero, List.getElem_cons_succ, List.setIfInBounds_toArray, List.set_cons_zero, List.set_cons_succ]
          refine wpAnyH_take (i := 14) (v := ?_) rfl (by kernel_rfl) (by kernel_rfl) (by kernel_rfl) (fun c a w h => h) (Or.inl ⟨by rfl, ?_⟩) hHeld ?_
          rotate_left
          · (intro w hSw; (try dsimp only at hSw); go_simp; try with_reducible rfl)
          simp only [Act.put, List.getElem_toArray, List.getElem_cons_zero, List.getElem_cons_succ, List.setIfInBounds_toArray, List.set_cons_zero, List.set_cons_succ]
          refine wpAnyH_take (i := 15) (v := ?_) rfl (by kernel_rfl) (by kernel_rfl) (by kernel_rfl) (fun c a w h => h) (Or.inl ⟨by rfl, ?_⟩) hHeld ?_
          rotate_left
          · (intro w hSw; (try dsimp only at hSw); go_simp; try with_reducible rfl)
          simp only [Act.put, List.getElem_toArray, List.getElem_cons_zero, List.getElem_cons_succ, List.setIfInBounds_toArray, List.set_cons_zero, List.set_cons_succ]
          refine wpAnyH_take (i := 16) (v := ?_) rfl (by kernel_rfl) (by kernel_rfl) (by kernel_rfl) (fun c a w h => h) (Or.inl ⟨by rfl, ?_⟩) hHeld ?_
          rotate_left
          · (intro w hSw; (try dsimp only at hSw); go_simp; try with_reducible rfl)
          simp only [Act.put, List.getElem_toArray, List.getElem_cons_zero, List.getElem_cons_succ, List.setIfInBounds_toArray, List.set_cons_zero, List.set_cons_succ]
          refine wpAnyH_take (i := 17) (v := ?_) rfl (by kernel_rfl) (by kernel_rfl) (by kernel_rfl) (fun c a w h => h) (Or.inl ⟨by rfl, ?_⟩) hHeld ?_
          rotate_left
          · (intro w hSw; (try dsimp only at hSw); go_simp; try with_reducible rfl)
          simp only [Act.put, List.getElem_toArray, List.getElem_cons_zero, List.getElem_cons_succ, List.setIfInBounds_toArray, List.set_cons_zero, List.set_cons_succ]
          refine wpAnyH_take (i := 18) (v := ?_) rfl (by kernel_rfl) (by kernel_rfl) (by kernel_rfl) (fun c a w h => h) (Or.inl ⟨by rfl, ?_⟩) hHeld ?_
          rotate_left
          · (intro w hSw; (try dsimp only at hSw); go_simp; try with_reducible rfl)
          simp only [Act.put, List.getElem_toArray, List.getElem_cons_zero, List.getElem_cons_succ, List.setIfInBounds_toArray, List.set_cons_zero, List.set_cons_succ]
          refine wpAnyH_take (i := 19) (v := ?_) rfl (by kernel_rfl) (by kernel_rfl) (by kernel_rfl) (fun c a w h => h) (Or.inl ⟨by rfl, ?_⟩) hHeld ?_
          rotate_left
          · (intro w hSw; (try dsimp only at hSw); go_simp; try with_reducible rfl)
          simp only [Act.put, List.getElem_toArray, List.getElem_cons_zero, List.getElem_cons_succ, List.setIfInBounds_toArray, List.set_cons_zero, List.set_cons_succ]
          refine wpAnyH_take (i := 20) (v := ?_) rfl (by kernel_rfl) (by kernel_rfl) (by kernel_rfl) (fun c a w h => h) (Or.inl ⟨by rfl, ?_⟩) hHeld ?_
          rotate_left
          · (intro w hSw; (try dsimp only at hSw); go_simp; try with_reducible rfl)
          simp only [Act.put, List.getElem_toArray, List.getElem_cons_zero, List.getElem_cons_succ, List.setIfInBounds_toArray, List.set_cons_zero, List.set_cons_succ]
          refine wpAnyH_take (i := 21) (v := ?_) rfl (by kernel_rfl) (by kernel_rfl) (by kernel_rfl) (fun c a w h => h) (Or.inl ⟨by rfl, ?_⟩) hHeld ?_
          rotate_left
          · (intro w hSw; (try dsimp only at hSw); go_simp; try with_reducible rfl)
          simp only [Act.put, List.getElem_toArray, List.getElem_cons_zero, List.getElem_cons_succ, List.setIfInBounds_toArray, List.set_cons_zero, List.set_cons_succ]
          refine wpAnyH_take (i := 22) (v := ?_) rfl (by kernel_rfl) (by kernel_rfl) (by kernel_rfl) (fun c a w h => h) (Or.inl ⟨by rfl, ?_⟩) hHeld ?_
          rotate_left
          · (intro w hSw; (try dsimp only at hSw); go_simp; try with_reducible rfl)
          simp only [Act.put, List.getElem_toArray, List.getElem_cons_zero, List.getElem_cons_succ, List.setIfInBounds_toArray, List.set_cons_zero, List.set_cons_succ]
          refine wpAnyH_take (i := 23) (v := ?_) rfl (by kernel_rfl) (by kernel_rfl) (by kernel_rfl) (fun c a w h => h) (Or.inl ⟨by rfl, ?_⟩) hHeld ?_
          rotate_left
          · (intro w hSw; (try dsimp only at hSw); go_simp; try with_reducible rfl)
          simp only [Act.put, List.getElem_toArray, List.getElem_cons_zero, List.getElem_cons_succ, List.setIfInBounds_toArray, List.set_cons_zero, List.set_cons_succ]
          refine wpAnyH_take (i := 24) (v := ?_) rfl (by kernel_rfl) (by kernel_rfl) (by kernel_rfl) (fun c a w h => h) (Or.inl ⟨by rfl, ?_⟩) hHeld ?_
          rotate_left
          · (intro w hSw; (try dsimp only at hSw); go_simp; try with_reducible rfl)
          simp only [Act.put, List.getElem_toArray, List.getElem_cons_zero, List.getElem_cons_succ, List.setIfInBounds_toArray, List.set_cons_zero, List.set_cons_succ]
          refine wpAnyH_take (i := 25) (v := ?_) rfl (by kernel_rfl) (by kernel_rfl) (by kernel_rfl) (fun c a w h => h) (Or.inl ⟨by rfl, ?_⟩) hHeld ?_
          rotate_left
          · (intro w hSw; (try dsimp only at hSw); go_simp; try with_reducible rfl)
          simp only [Act.put, List.getElem_toArray, List.getElem_cons_zero, List.getElem_cons_succ, List.setIfInBounds_toArray, List.set_cons_zero, List.set_cons_succ]
          refine wpAnyH_take (i := 26) (v := ?_) rfl (by kernel_rfl) (by kernel_rfl) (by kernel_rfl) (fun c a w h => h) (Or.inl ⟨by rfl, ?_⟩) hHeld ?_
          rotate_left
          · (intro w hSw; (try dsimp only at hSw); go_simp; try with_reducible rfl)
          simp only [Act.put, List.getElem_toArray, List.getElem_cons_zero, List.getElem_cons_succ, List.setIfInBounds_toArray, List.set_cons_zero, List.set_cons_succ]
          refine wpAnyH_take (i := 27) (v := ?_) rfl (by kernel_rfl) (by kernel_rfl) (by kernel_rfl) (fun c a w h => h) (Or.inl ⟨by rfl, ?_⟩) hHeld ?_
          rotate_left
          · (intro w hSw; (try dsimp only at hSw); go_simp; try with_reducible rfl)
          simp only [Act.put, List.getElem_toArray, List.getElem_cons_zero, List.getElem_cons_succ, List.setIfInBounds_toArray, List.set_cons_zero, List.set_cons_succ]
          refine wpAnyH_take (i := 28) (v := ?_) rfl (by kernel_rfl) (by kernel_rfl) (by kernel_rfl) (fun c a w h => h) (Or.inl ⟨by rfl, ?_⟩) hHeld ?_
          rotate_left
          · (intro w hSw; (try dsimp only at hSw); go_simp; try with_reducible rfl)
          simp only [Act.put, List.getElem_toArray, List.getElem_cons_zero, List.getElem_cons_succ, List.setIfInBounds_toArray, List.set_cons_zero, List.set_cons_succ]
          refine wpAnyH_take (i := 29) (v := ?_) rfl (by kernel_rfl) (by kernel_rfl) (by kernel_rfl) (fun c a w h => h) (Or.inl ⟨by rfl, ?_⟩) hHeld ?_
          rotate_left
          · (intro w hSw; (try dsimp only at hSw); go_simp; try with_reducible rfl)
          simp only [Act.put, List.getElem_toArray, List.getElem_cons_zero, List.getElem_cons_succ, List.setIfInBounds_toArray, List.set_cons_zero, List.set_cons_succ]
          refine wpAnyH_take (i := 30) (v := ?_) rfl (by kernel_rfl) (by kernel_rfl) (by kernel_rfl) (fun c a w h => h) (Or.inl ⟨by rfl, ?_⟩) hHeld ?_
          rotate_left
          · (intro w hSw; (try dsimp only at hSw); go_simp; try with_reducible rfl)
          simp only [Act.put, List.getElem_toArray, List.getElem_cons_zero, List.getElem_cons_succ, List.setIfInBounds_toArray, List.set_cons_zero, List.set_cons_succ]
          refine wpAnyH_take (i := 31) (v := ?_) rfl (by kernel_rfl) (by kernel_rfl) (by kernel_rfl) (fun c a w h => h) (Or.inl ⟨by rfl, ?_⟩) hHeld ?_
          rotate_left
          · (intro w hSw; (try dsimp only at hSw); go_simp; try with_reducible rfl)
          simp only [Act.put, List.getElem_toArray, List.getElem_cons_zero, List.getElem_cons_succ, List.setIfInBounds_toArray, List.set_cons_zero, List.set_cons_succ]
          refine wpAnyH_take (i := 32) (v := ?_) rfl (by kernel_rfl) (by kernel_rfl) (by kernel_rfl) (fun c a w h => h) (Or.inl ⟨by rfl, ?_⟩) hHeld ?_
          rotate_left
          · (intro w hSw; (try dsimp only at hSw); go_simp; try with_reducible rfl)
          simp only [Act.put, List.getElem_toArray, List.getElem_cons_zero, List.getElem_cons_succ, List.setIfInBounds_toArray, List.set_cons_zero, List.set_cons_succ]
          refine wpAnyH_take (i := 33) (v := ?_) rfl (by kernel_rfl) (by kernel_rfl) (by kernel_rfl) (fun c a w h => h) (Or.inl ⟨by rfl, ?_⟩) hHeld ?_
          rotate_left
          · (intro w hSw; (try dsimp only at hSw); go_simp; try with_reducible rfl)
          simp only [Act.put, List.getElem_toArray, List.getElem_cons_zero, List.getElem_cons_succ, List.setIfInBounds_toArray, List.set_cons_zero, List.set_cons_succ]
          refine wpAnyH_take (i := 34) (v := ?_) rfl (by kernel_rfl) (by kernel_rfl) (by kernel_rfl) (fun c a w h => h) (Or.inl ⟨by rfl, ?_⟩) hHeld ?_
          rotate_left
          · (intro w hSw; (try dsimp only at hSw); go_simp; try with_reducible rfl)
          simp only [Act.put, List.getElem_toArray, List.getElem_cons_zero, List.getElem_cons_succ, List.setIfInBounds_toArray, List.set_cons_zero, List.set_cons_succ]
          refine wpAnyH_take (i := 35) (v := ?_) rfl (by kernel_rfl) (by kernel_rfl) (by kernel_rfl) (fun c a w h => h) (Or.inl ⟨by rfl, ?_⟩) hHeld ?_
          rotate_left
          · (intro w hSw; (try dsimp only at hSw); go_simp; try with_reducible rfl)
          simp only [Act.put, List.getElem_toArray, List.getElem_cons_zero, List.getElem_cons_succ, List.setIfInBounds_toArray, List.set_cons_zero, List.set_cons_succ]
          refine wpAnyH_take (i := 36) (v := ?_) rfl (by kernel_rfl) (by kernel_rfl) (by kernel_rfl) (fun c a w h => h) (Or.inl ⟨by rfl, ?_⟩) hHeld ?_
          rotate_left
          · (intro w hSw; (try dsimp only at hSw); go_simp; try with_reducible rfl)
          simp only [Act.put, List.getElem_toArray, List.getElem_cons_zero, List.getElem_cons_succ, List.setIfInBounds_toArray, List.set_cons_zero, List.set_cons_succ]
          refine wpAnyH_take (i := 38) (v := ?_) rfl (by kernel_rfl) (by kernel_rfl) (by kernel_rfl) (fun c a w h => h) (Or.inl ⟨by rfl, ?_⟩) hHeld ?_
          rotate_left
          · (intro w hSw; (try dsimp only at hSw); go_simp; try with_reducible rfl)
          simp only [Act.put, List.getElem_toArray, List.getElem_cons_zero, List.getElem_cons_succ, List.setIfInBounds_toArray, List.set_cons_zero, List.set_cons_succ]
          refine wpAnyH_take (i := 39) (v := ?_) rfl (by kernel_rfl) (by kernel_rfl) (by kernel_rfl) (fun c a w h => h) (Or.inl ⟨by rfl, ?_⟩) hHeld ?_
          rotate_left
          · (intro w hSw; (try dsimp only at hSw); go_simp; try with_reducible rfl)
          simp only [Act.put, List.getElem_toArray, List.getElem_cons_zero, List.getElem_cons_succ, List.setIfInBounds_toArray, List.set_cons_zero, List.set_cons_succ]
          refine wpAnyH_take (i := 40) (v := ?_) rfl (by kernel_rfl) (by kernel_rfl) (by kernel_rfl) (fun c a w h => h) (Or.inl ⟨by rfl, ?_⟩) hHeld ?_
          rotate_left
          · (intro w hSw; (try dsimp only at hSw); go_simp; try with_reducible rfl)
          simp only [Act.put, List.getElem_toArray, List.getElem_cons_zero, List.getElem_cons_succ, List.setIfInBounds_toArray, List.set_cons_zero, List.set_cons_succ]
          refine wpAnyH_take (i := 41) (v := ?_) rfl (by kernel_rfl) (by kernel_rfl) (by kernel_rfl) (fun c a w h => h) (Or.inl ⟨by rfl, ?_⟩) hHeld ?_
          rotate_left
          · (intro w hSw; (try dsimp only at hSw); go_simp; try with_reducible rfl)
          simp only [Act.put, List.getElem_toArray, List.getElem_cons_zero, List.getElem_cons_succ, List.setIfInBounds_toArray, List.set_cons_zero, List.set_cons_succ]
          refine wpAnyH_take (i := 42) (v := ?_) rfl (by kernel_rfl) (by kernel_rfl) (by kernel_rfl) (fun c a w h => h) (Or.inl ⟨by rfl, ?_⟩) hHeld ?_
          rotate_left
          · (intro w hSw; (try dsimp only at hSw); go_simp; try with_reducible rfl)
          simp only [Act.put, List.getElem_toArray, List.getElem_cons_zero, List.getElem_cons_succ, List.setIfInBounds_toArray, List.set_cons_zero, List.set_cons_succ]
          refine wpAnyH_ready (rs := [37]) (by kernel_rfl) (by simp) ?_
          refine AllReadyH.cons rfl (fun K hK => ?_) AllReadyH.nil
          go_simp
          refine (hE _).mono ?_
          rintro e w7 ⟨rfl, h7⟩
          have s1 : (fun wz => wz.cell? ⟨g, k * 5 + 1, none⟩ = some (.string (s.extract b (b + n))) ∧ wz.cell? ⟨g, k * 5 + 3, none⟩ = some (.int .i64 pl.1) ∧ wz.cell? ⟨g, k * 5 + 4, none⟩ = some (.int .i64 pl.2)) w7 := ⟨below_cell h7 _ _ s0.1, below_cell h7 _ _ s0.2.1, below_cell h7 _ _ s0.2.2⟩
          refine hK.out _ _ s1 (fun hHeld => ?_)
          clear hK K
          try simp only [Act.put, List.getElem_toArray, List.getElem_cons_zero, List.getElem_cons_succ, List.setIfInBounds_toArray, List.set_cons_zero, List.set_cons_succ]
          refine wpAnyH_take (i := 43) (v := ?_) rfl (by kernel_rfl) (by kernel_rfl) (by kernel_rfl) (fun c a w h => h) (Or.inl ⟨by rfl, ?_⟩) hHeld ?_
          rotate_left
          · (intro w hSw; (try dsimp only at hSw); go_simp; try with_reducible rfl)
          simp only [Act.put, List.getElem_toArray, List.getElem_cons_zero, List.getElem_cons_succ, List.setIfInBounds_toArray, List.set_cons_zero, List.set_cons_succ]
          refine wpAnyH_take (i := 44) (v := ?_) rfl (by kernel_rfl) (by kernel_rfl) (by kernel_rfl) (fun c a w h => h) (Or.inl ⟨by rfl, ?_⟩) hHeld ?_
          rotate_left
          · (intro w hSw; (try dsimp only at hSw); go_simp; try with_reducible rfl)
          simp only [Act.put, List.getElem_toArray, List.getElem_cons_zero, List.getElem_cons_succ, List.setIfInBounds_toArray, List.set_cons_zero, List.set_cons_succ]
          refine wpAnyH_done (by kernel_rfl) ?_ _
          clear hHeld
          try simp only [Act.put, List.getElem_toArray, List.getElem_cons_zero, List.getElem_cons_succ, List.setIfInBounds_toArray, List.set_cons_zero, List.set_cons_succ]
          go_wp2_with fail
          go_meet
          case rel => exact ⟨rfl, trB hbd h7 hbd.size⟩
        case rest =>
          obtain ⟨hc1, h4⟩ := hcut
          subst hc1
          have c0 := below_cell h4 _ _ c0
          have c1 := below_cell h4 _ _ c1
          have c2 := below_cell h4 _ _ c2
          have c3 := below_cell h4 _ _ c3
          have c4 := below_cell h4 _ _ c4
          have p1 := below_cell h4 _ _ p1
          have q1 := below_cell h4 _ _ q1
          have HOW := hid (own_below HOW.out h4)
          have HB := hid (trB HB.out h4 HB.out.size)
          clear h4
          go_wp2_with fail
          refine (hSc _).mono ?_
          rintro e w5 ⟨⟨v5, rfl, o5⟩, h5⟩
          obtain ⟨g5, c5, hv5, hgl5, _, hcs5⟩ := tok_cells o5 (by rw [hml]; omega)
          rw [hml] at hv5
          subst hv5
          obtain ⟨m0, m1, m2, m3, m4⟩ := hcs5 k _ HMK.out
          simp only at m0 m1 m2 m3 m4
          obtain ⟨U5, V5, hU5, hz5, hV5, hb5, p5, q5⟩ := pos_row w5 (0, 0)
          have h5b := trB h5 hb5 h5.size
          have m0 := below_cell hb5 _ _ m0
          have m1 := below_cell hb5 _ _ m1
          have m2 := below_cell hb5 _ _ m2
          have m3 := below_cell hb5 _ _ m3
          have m4 := below_cell hb5 _ _ m4
          have c0 := below_cell h5b _ _ c0
          have c1 := below_cell h5b _ _ c1
          have c2 := below_cell h5b _ _ c2
          have c3 := below_cell h5b _ _ c3
          have c4 := below_cell h5b _ _ c4
          have HP := hid (And.intro (below_cell h5b _ _ p1) (below_cell h5b _ _ q1))
          have HOW := hid (own_below HOW.out h5b)
          have HB := hid (trB HB.out h5b HB.out.size)
          clear h5 hb5 h5b o5 hcs5 p5 q5 p1 q1
          have hkl : k < k + 1 := Nat.lt_succ_self _
          have hkI : (k : Int) < ((k + 1 : Nat) : Int) := by omega
          go_upto_region 21 with (refine wpList_store_row rfl 24 _ _ rfl w5.heap.size _ rfl rfl 24 #[.int .i64 0, .int .i64 0] hz5 (by exact sizeP) (by rfl) (by simp [Value.oneCell', pc]) ?_)
          try simp only [Act.put, List.getElem_toArray, List.getElem_cons_zero, List.getElem_cons_succ, List.setIfInBounds_toArray, List.set_cons_zero, List.set_cons_succ]
          go_quiet (fail)
          go_wp2_with fail
          go_roundw
          case rel =>
            have hbd := fun q => below_drewN V5 q
            exact ⟨k + 1, by simp, by omega, by rw [HLST.out]; simp, own_below HOW.out (hbd _), below_cell (hbd _) _ _ HP.out.1, below_cell (hbd _) _ _ HP.out.2, trB HB.out (hbd _) HB.out.size⟩
          case measure => simp only [Lib.intOf]; omega
end Go.Proofs.Ytokhlcioekbjdaa.K
