import Derived.Test.YtokhlcioekbjdaaKRNumB
import Derived.Test.YtokhlcioekbjdaaKPlace
import Derived.Test.YtokhlcioekbjdaaKScan
/-! The reference's token, At, End. -/
namespace Go.Proofs.Ytokhlcioekbjdaa.K
open Go.RowKit
open Go.Proofs
open Go.Proofs.Ytokhlcioekbjdaa
open Go.Proofs.Ytokhlcioekbjdaa.T (size_list numE numC)
set_option linter.unusedVariables false
set_option linter.unusedSimpArgs false
set_option maxRecDepth 20000
set_option maxHeartbeats 2000000

/-- The two blocks that a call of token begins with: the place, the answer. -/
theorem two_rows (w : World) (p : Int × Int) : ∃ U, ((w.alloc (.cells #[.int .i64 p.1, .int .i64 p.2] 24)).alloc (.cells #[.int .i64 0, .string { data := #[] }, .int .u16 0, .int .i64 0, .int .i64 0] 30)) = U ∧ Below w.heap.size w U ∧ U.heap[w.heap.size]? = some (.cells #[.int .i64 p.1, .int .i64 p.2] 24 (0, 0)) ∧ U.heap[w.heap.size + 1]? = some (.cells zc 30 (0, 0)) := by
  refine ⟨_, rfl, ((Below.refl _ w).alloc (Nat.le_refl _) _).alloc (by simp) _, ?_, ?_⟩
  · rw [Below.heap_alloc _ _ _ (by simp)]; exact heap_alloc_new w _
  · have := heap_alloc_new (w.alloc (.cells #[.int .i64 p.1, .int .i64 p.2] 24)) (.cells zc 30)
    simpa [zc] using this
theorem rtok_fin {w w1 : World} {c0 : Array Value} (hz : w1.heap[w.heap.size + 1]? = some (.cells c0 30 (0, 0))) (hb : Below w.heap.size w w1) {a : Act} {k : Int} {t : ByteArray} {v : Int} {p : Int × Int} {x : Value} {q : Tmp} {u : Tmp} {fn : Func} (hr : fn.results = #[.cell q 30, .tmp u])
    (hp : a.tmps.getD q undef = .pointer (some ⟨w.heap.size + 1, 0, none⟩)) (h3 : a.tmps.getD u undef = x) (hd : a.defers = []) :
    bodyPost Try.prog fn (fun e w' => e = .returned (.tuple #[tv k t v p, x]) ∧ Below w.heap.size w w') .ret a (w1.setRow (w.heap.size + 1) (tc k t v p)) := by
  have hfin := setRow_heap w1 (w.heap.size + 1) _ (tc k t v p) _ _ hz
  have hbf := Below.setRow hb (w.heap.size + 1) (Nat.le_succ _) (tc k t v p)
  refine bodyPost_ret (v := .tuple #[tv k t v p, x]) ?_ hd ⟨rfl, hbf⟩
  rw [results_cell_tmp hr, hp, h3]
  simp [asAddr, run_loadVar_row _ (w.heap.size + 1) _ 30 _ _ _ hfin Try.underlying30 rfl sizeT, tv]
theorem rtoken_wide (s : ByteArray) (h : 31 < s.size) (hs : s.size ≤ 65536) (p : Int × Int) (w : World) :
    Calls Try.prog 26 #[.string s, pv p] w fun e w' => e = .returned (.tuple #[tv 0 ⟨#[]⟩ 0 (0, 0), .int .i64 93]) ∧ Below w.heap.size w w' := by
  obtain ⟨U, hU, hb, hp, hz⟩ := two_rows w p
  have q0 : U.cell? ⟨w.heap.size, 0, none⟩ = some (.int .i64 p.1) := cell_of_row _ _ 0 _ _ _ hp
  have q1 : U.cell? ⟨w.heap.size, 1, none⟩ = some (.int .i64 p.2) := cell_of_row _ _ 1 _ _ _ hp
  unfold pv pc
  go_enter Try.func26, Try.ntmps26
  go_wp2_with (refine wpList_store_row rfl 30 _ _ rfl (w.heap.size + 1) _ rfl rfl 30 zc hz (by exact sizeT) (by rfl) (by simp [Value.oneCell']) ?_)
  exact rtok_fin (k := 0) (t := ⟨#[]⟩) (v := 0) (p := (0, 0)) hz hb rfl rfl rfl rfl
theorem rtoken_great (s : ByteArray) (h1 : 1 ≤ s.size) (h : s.size ≤ 31) (hn : numE s.data.toList = 21) (p : Int × Int) (w : World) :
    Calls Try.prog 26 #[.string s, pv p] w fun e w' => e = .returned (.tuple #[tv 0 ⟨#[]⟩ 0 (0, 0), .int .i64 21]) ∧ Below w.heap.size w w' := by
  obtain ⟨U, hU, hb, hp, hz⟩ := two_rows w p
  have q0 : U.cell? ⟨w.heap.size, 0, none⟩ = some (.int .i64 p.1) := cell_of_row _ _ 0 _ _ _ hp
  have q1 : U.cell? ⟨w.heap.size, 1, none⟩ = some (.int .i64 p.2) := cell_of_row _ _ 1 _ _ _ hp
  have hN := fun W => rnum_any s h1 h W
  simp only [is3, hn, show decide ((21 : Int) ≠ 20) = true from rfl, show decide ((21 : Int) = 0) = false from rfl] at hN
  unfold pv pc
  go_enter Try.func26, Try.ntmps26
  go_wp2_with fail
  refine (hN _).mono ?_
  rintro e w' ⟨rfl, rfl⟩
  go_wp2_with (refine wpList_store_row rfl 30 _ _ rfl (w.heap.size + 1) _ rfl rfl 30 zc hz (by exact sizeT) (by rfl) (by simp [Value.oneCell']) ?_)
  exact rtok_fin (k := 0) (t := ⟨#[]⟩) (v := 0) (p := (0, 0)) hz hb rfl rfl rfl rfl
theorem rtoken_word (s : ByteArray) (h1 : 1 ≤ s.size) (h : s.size ≤ 31) (hn : numE s.data.toList = 20) (p : Int × Int) (w : World) :
    Calls Try.prog 26 #[.string s, pv p] w fun e w' => e = .returned (.tuple #[tv 1 s 0 p, .int .i64 0]) ∧ Below w.heap.size w w' := by
  obtain ⟨U, hU, hb, hp, hz⟩ := two_rows w p
  have q0 : U.cell? ⟨w.heap.size, 0, none⟩ = some (.int .i64 p.1) := cell_of_row _ _ 0 _ _ _ hp
  have q1 : U.cell? ⟨w.heap.size, 1, none⟩ = some (.int .i64 p.2) := cell_of_row _ _ 1 _ _ _ hp
  have hN := fun W => rnum_any s h1 h W
  simp only [is3, hn, show decide ((20 : Int) ≠ 20) = false from rfl, show decide ((20 : Int) = 0) = false from rfl] at hN
  unfold pv pc
  go_enter Try.func26, Try.ntmps26
  go_wp2_with fail
  refine (hN _).mono ?_
  rintro e w' ⟨rfl, rfl⟩
  go_wp2_with (refine wpList_store_row rfl 30 _ _ rfl (w.heap.size + 1) _ rfl rfl 30 zc hz (by exact sizeT) (by rfl) (by simp [Value.oneCell']) ?_)
  exact rtok_fin (k := 1) (t := s) (v := 0) (p := p) hz hb rfl rfl rfl rfl
theorem rtoken_num (s : ByteArray) (h1 : 1 ≤ s.size) (h : s.size ≤ 31) (hn : numE s.data.toList = 0) (p : Int × Int) (w : World) :
    Calls Try.prog 26 #[.string s, pv p] w fun e w' => e = .returned (.tuple #[tv 2 s (numC s.data.toList) p, .int .i64 0]) ∧ Below w.heap.size w w' := by
  obtain ⟨U, hU, hb, hp, hz⟩ := two_rows w p
  have q0 : U.cell? ⟨w.heap.size, 0, none⟩ = some (.int .i64 p.1) := cell_of_row _ _ 0 _ _ _ hp
  have q1 : U.cell? ⟨w.heap.size, 1, none⟩ = some (.int .i64 p.2) := cell_of_row _ _ 1 _ _ _ hp
  have hN := fun W => rnum_any s h1 h W
  simp only [is3, hn, show decide ((0 : Int) ≠ 20) = true from rfl, show decide ((0 : Int) = 0) = true from rfl] at hN
  generalize numC s.data.toList = v at *
  unfold pv pc
  go_enter Try.func26, Try.ntmps26
  go_wp2_with fail
  refine (hN _).mono ?_
  rintro e w' ⟨rfl, rfl⟩
  go_wp2_with (refine wpList_store_row rfl 30 _ _ rfl (w.heap.size + 1) _ rfl rfl 30 zc hz (by exact sizeT) (by rfl) (by simp [Value.oneCell']) ?_)
  exact rtok_fin (k := 2) (t := s) (v := v) (p := p) hz hb rfl rfl rfl rfl
theorem rtoken_ok (s : ByteArray) (h1 : 1 ≤ s.size) (h : s.size ≤ 31) (hn : numE s.data.toList ≠ 21) (p : Int × Int) (w : World) :
    Calls Try.prog 26 #[.string s, pv p] w fun e w' => e = .returned (.tuple #[tv (kd s.data.toList) s (numC s.data.toList) p, .int .i64 0]) ∧ Below w.heap.size w w' := by
  rcases kd_cases _ hn with ⟨h0, h2⟩ | ⟨h0, h2, h3⟩
  · rw [h2]; exact rtoken_num s h1 h h0 p w
  · rw [h2, h3]; exact rtoken_word s h1 h h0 p w
theorem rat_any (s : ByteArray) (hs : s.size ≤ 140737488355328) (n : Nat) (hn : n ≤ s.size) (w : World) :
    Calls Try.prog 27 #[.string s, .int .i64 n] w fun e w' => e = .returned (pv (T.place s.data.toList n)) ∧ Below w.heap.size w w' := by
  obtain ⟨U, hU⟩ : ∃ U, (w.alloc (.cells #[.int .i64 0, .int .i64 0] 24)).alloc (.cells #[.int .i64 0, .int .i64 0] 24) = U := ⟨_, rfl⟩
  have hbU : Below w.heap.size w U := by rw [← hU]; exact ((Below.refl _ w).alloc (Nat.le_refl _) _).alloc (by simp) _
  have hz : U.heap[w.heap.size]? = some (.cells #[.int .i64 0, .int .i64 0] 24 (0, 0)) := by
    rw [← hU, Below.heap_alloc _ _ _ (by simp)]; exact heap_alloc_new w _
  have hy : U.heap[w.heap.size + 1]? = some (.cells #[.int .i64 0, .int .i64 0] 24 (0, 0)) := by
    rw [← hU]; have := heap_alloc_new (w.alloc (.cells #[.int .i64 0, .int .i64 0] 24)) (.cells #[.int .i64 0, .int .i64 0] 24); simpa using this
  obtain ⟨V, hV⟩ : ∃ V, U.setRow (w.heap.size + 1) #[.int .i64 1, .int .i64 1] = V := ⟨_, rfl⟩
  have hbV : Below w.heap.size w V := by rw [← hV]; exact Below.setRow hbU _ (Nat.le_succ _) _
  have hzV : V.heap[w.heap.size]? = some (.cells #[.int .i64 0, .int .i64 0] 24 (0, 0)) := by rw [← hV]; exact (setRow_other U _ _ _ (by omega)).trans hz
  have hyV : V.heap[w.heap.size + 1]? = some (.cells #[.int .i64 1, .int .i64 1] 24 (0, 0)) := by rw [← hV]; exact setRow_heap U _ _ _ _ _ hy
  have H := hid (And.intro hbV (And.intro hzV hyV))
  clear hbU hz hbV hzV hyV
  go_enter Try.func27, Try.ntmps27
  go_upto_region 2 with (refine wpList_store_row rfl 24 _ _ rfl (w.heap.size + 1) _ rfl rfl 24 #[.int .i64 0, .int .i64 0] hy (by exact sizeP) (by rfl) (by simp [Value.oneCell']) ?_)
  go_wp2_with fail
  go_loopw [6] (fun x wr => ∃ k : Nat, x = .int .i64 (k : Int) ∧ k ≤ n ∧ Below w.heap.size w wr ∧ wr.heap[w.heap.size]? = some (.cells #[.int .i64 0, .int .i64 0] 24 (0, 0)) ∧ wr.heap[w.heap.size + 1]? = some (.cells #[.int .i64 (T.place s.data.toList k).1, .int .i64 (T.place s.data.toList k).2] 24 (0, 0))) (fun x _ => n - (Lib.intOf x).toNat)
  case atStart => exact ⟨0, rfl, Nat.zero_le _, H.out.1, H.out.2.1, H.out.2.2⟩
  case round =>
    obtain ⟨k, rfl, hk, hB, hZ, hY⟩ := hrel
    have q0 := cell_of_row wr (w.heap.size + 1) 0 _ _ _ hY
    have q1 := cell_of_row wr (w.heap.size + 1) 1 _ _ _ hY
    simp only [List.getElem?_toArray, List.getElem?_cons_zero, List.getElem?_cons_succ] at q0 q1
    have z1 := frozen_of_row wr (w.heap.size + 1) 1 _ _ hY
    by_cases hlt : k < n
    · have hl : k < s.data.toList.length := by rw [size_list]; omega
      have hks : k < s.size := by omega
      have hps := T.place_succ s.data.toList k hl
      have hpp := T.place_line_pos s.data.toList k
      have hgk : s.data.toList[k] = s[k] := rfl
      rw [hgk] at hps
      by_cases h10 : s[k].toNat = 10
      · have hp1 : T.place s.data.toList (k + 1) = ((T.place s.data.toList k).1 + 1, 1) := by rw [hps]; unfold T.stepP; rw [if_pos h10]
        have h10' : (s[k].toNat : Int) = 10 := by omega
        have hY2 := setRow_heap wr (w.heap.size + 1) _ #[.int .i64 ((T.place s.data.toList k).1 + 1), .int .i64 1] _ _ hY
        have hZ2 := (setRow_other wr (w.heap.size + 1) w.heap.size #[.int .i64 ((T.place s.data.toList k).1 + 1), .int .i64 1] (by omega)).trans hZ
        have hB2 := Below.setRow hB (w.heap.size + 1) (Nat.le_succ _) #[.int .i64 ((T.place s.data.toList k).1 + 1), .int .i64 1]
        have HX := hid (And.intro hB2 (And.intro hZ2 hY2))
        have HP := hid hp1
        have x0 : 0 ≤ (T.place s.data.toList k).1 := by omega
        have x1 : (T.place s.data.toList k).1 ≤ 140737488355329 := by omega
        clear hB hZ hB2 hZ2 hY2 hps hpp hgk hp1 hl
        generalize T.place s.data.toList k = pk at *
        go_upto_region 4 with (refine wpList_store_row rfl 24 _ _ rfl (w.heap.size + 1) _ rfl rfl 24 _ hY (by exact sizeP) (by rfl) (by simp [Value.oneCell']) ?_)
        go_wp2_with fail
        obtain ⟨y1, y2, y3⟩ := HX.out
        go_roundw
        case rel => exact ⟨k + 1, by simp, by omega, y1, y2, by rw [HP.out]; exact y3⟩
        case measure => simp only [Lib.intOf]; omega
      · have hp1 : T.place s.data.toList (k + 1) = ((T.place s.data.toList k).1, (T.place s.data.toList k).2 + 1) := by rw [hps]; unfold T.stepP; rw [if_neg h10]
        have h10' : ¬ (s[k].toNat : Int) = 10 := by omega
        have hY2 := S.setCell_heap wr (w.heap.size + 1) 1 [.int .i64 (T.place s.data.toList k).1, .int .i64 (T.place s.data.toList k).2] _ (.int .i64 ((T.place s.data.toList k).2 + 1)) hY
        have hZ2 := (S.setCell_other wr (w.heap.size + 1) 1 w.heap.size (.int .i64 ((T.place s.data.toList k).2 + 1)) (by omega)).trans hZ
        have hB2 := hB.setCell (p := ⟨w.heap.size + 1, 1, none⟩) (Nat.le_succ _) (.int .i64 ((T.place s.data.toList k).2 + 1))
        have HX := hid (And.intro hB2 (And.intro hZ2 hY2))
        have HP := hid hp1
        have x0 : 0 ≤ (T.place s.data.toList k).2 := by omega
        have x1 : (T.place s.data.toList k).2 ≤ 140737488355329 := by omega
        clear hB hZ hB2 hZ2 hY2 hps hpp hgk hp1 hl hY
        generalize T.place s.data.toList k = pk at *
        go_wp2_with fail
        obtain ⟨y1, y2, y3⟩ := HX.out
        go_roundw
        case rel => exact ⟨k + 1, by simp, by omega, y1, y2, by rw [HP.out]; exact y3⟩
        case measure => simp only [Lib.intOf]; omega
    · obtain rfl : k = n := by omega
      have HB := hid hB
      clear hB
      go_wp2_with (refine wpList_store_row rfl 24 _ _ rfl w.heap.size _ rfl rfl 24 #[.int .i64 0, .int .i64 0] hZ (by exact sizeP) (by rfl) (by simp [Value.oneCell']) ?_)
      exact place_fin hZ HB.out rfl rfl rfl
theorem rend_any (s : ByteArray) (hs : s.size ≤ 140737488355328) (w : World) :
    Calls Try.prog 17 #[.string s] w fun e w' => e = .returned (pv (T.place s.data.toList s.size)) ∧ Below w.heap.size w w' := by
  obtain ⟨wA, hA⟩ : ∃ wA, w.alloc (.cells #[.int .i64 0, .int .i64 0] 24) = wA := ⟨_, rfl⟩
  have hb : Below w.heap.size w wA := by rw [← hA]; exact (Below.refl _ w).alloc (Nat.le_refl _) _
  have hz : wA.heap[w.heap.size]? = some (.cells #[.int .i64 0, .int .i64 0] 24 (0, 0)) := by rw [← hA]; exact heap_alloc_new w _
  have hc := rat_any s hs s.size (Nat.le_refl _) wA
  generalize T.place s.data.toList s.size = p at *
  go_enter Try.func17, Try.ntmps17
  go_wp2_with fail
  refine hc.mono ?_
  rintro e w1 ⟨rfl, h1⟩
  have hz1 : w1.heap[w.heap.size]? = some (.cells #[.int .i64 0, .int .i64 0] 24 (0, 0)) := (h1.block _ (lt_of hz)).trans hz
  have hb1 : Below w.heap.size w w1 := trB hb h1 hb.size
  clear hc h1
  go_wp2_with (refine wpList_store_row rfl 24 _ _ rfl w.heap.size _ rfl rfl 24 #[.int .i64 0, .int .i64 0] hz1 (by exact sizeP) (by rfl) (by simp [Value.oneCell', pc]) ?_)
  exact place_fin hz1 hb1 rfl rfl rfl
end Go.Proofs.Ytokhlcioekbjdaa.K
