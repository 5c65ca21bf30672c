import Derived.Test.YtokhlcioekbjdaaKScanX
import Derived.Test.YtokhlcioekbjdaaKRTok
import Derived.Deep.CutBlock
import Derived.Deep.RegionHeldLaw
import Derived.BigRegion
/-! The reference's Scan. -/
namespace Go.Proofs.Ytokhlcioekbjdaa.K
open Go.RowKit
open Go.Proofs
open Go.Proofs.Ytokhlcioekbjdaa
open Go.Proofs.Ytokhlcioekbjdaa.T (size_list numE numC)
set_option linter.unusedVariables false
set_option linter.unusedSimpArgs false
set_option maxHeartbeats 4000000
set_option maxRecDepth 20000

theorem scanw_end {w w' : World} {p : Int × Int} (hz : w'.heap[w.heap.size]? = some (.cells (pc p) 24 (0, 0))) (hb : Below w.heap.size w w') {a : Act} {ts : List Tk} {v : Value} {er : Int} {q u t : Tmp} {fn : Func} (hr : fn.results = #[.tmp u, .cell q 24, .tmp t])
    (hp : a.tmps.getD q undef = .pointer (some ⟨w.heap.size, 0, none⟩)) (h2 : a.tmps.getD u undef = v) (h4 : a.tmps.getD t undef = .int .i64 er) (hd : a.defers = [])
    (ho : w'.ownsRow w.heap.size 30 5 v ts.length (S.en eT ts)) :
    bodyPost Try.prog fn (fun e w' => Sc w ts p er e w') .ret a w' := by
  refine bodyPost_ret (v := .tuple #[v, pv p, .int .i64 er]) ?_ hd ⟨⟨v, rfl, ho⟩, hb⟩
  rw [results_tct hr, hp, h2, h4]
  simp [asAddr, run_loadVar_row _ w.heap.size _ 24 _ _ _ hz Try.underlying24 rfl (by exact sizeP), pv]
theorem rscan_long (s : ByteArray) (h : 65536 < s.size) (hs : s.size ≤ maxLen) (w : World) :
    Calls Try.prog 15 #[.string s] w fun e w' => Sc w [] (1, 1) 90 e w' := by
  unfold maxLen at hs
  obtain ⟨wA, hA⟩ : ∃ wA, w.alloc (.cells #[.int .i64 0, .int .i64 0] 24) = wA := ⟨_, rfl⟩
  have hb : Below w.heap.size w wA := by rw [← hA]; exact (Below.refl _ w).alloc (Nat.le_refl _) _
  have hz : wA.heap[w.heap.size]? = some (.cells #[.int .i64 0, .int .i64 0] 24 (0, 0)) := by rw [← hA]; exact heap_alloc_new w _
  go_enter Try.func15, Try.ntmps15
  go_wp2_with (refine wpList_store_row rfl 24 _ _ rfl w.heap.size _ rfl rfl 24 #[.int .i64 0, .int .i64 0] hz (by exact sizeP) (by rfl) (by simp [Value.oneCell']) ?_)
  exact scanw_fin (p := (1, 1)) hz hb rfl rfl rfl rfl rfl (World.ownsRow_nil _ _ _ _) (by simp [Value.ownBlock])
/-- What the reference's scan holds on to. -/
structure RS (s : ByteArray) (w wr : World) (vO : Value) (i : Nat) (a : List (Nat × Nat)) : Prop where
  at_ : At s.data.toList i a
  toks : wr.ownsRow (w.heap.size + 1) 30 5 vO a.length (S.en eT (a.map (tk s)))
  res : wr.heap[w.heap.size]? = some (.cells #[.int .i64 0, .int .i64 0] 24 (0, 0))
  bel : Below w.heap.size w wr
theorem RS.below {s : ByteArray} {w wr wq : World} {vO : Value} {i : Nat} {a : List (Nat × Nat)} (h : RS s w wr vO i a) (k : Below wr.heap.size wr wq) : RS s w wq vO i a :=
  ⟨h.at_, S.own_kept h.toks fun g _ hg => k.block g hg, (k.block _ (lt_of h.res)).trans h.res, trB h.bel k h.bel.size⟩
theorem bk_seen (c : Nat) (h : T.seen c = true) : bk c = false := by
  have h' : 33 ≤ c ∧ c ≤ 126 := by simpa [T.seen] using h
  unfold bk; simp; omega
/-- The answer written, cell by cell. -/
theorem RS.err {s : ByteArray} {w V : World} {vO : Value} {i : Nat} {a : List (Nat × Nat)} (h : RS s w V vO i a) (p : Int × Int) :
    (((V.setCell ⟨w.heap.size, 0, none⟩ (.int .i64 p.1)).setCell ⟨w.heap.size, 1, none⟩ (.int .i64 p.2)).drew).heap[w.heap.size]? = some (.cells (pc p) 24 (0, 0)) ∧ Below w.heap.size w (((V.setCell ⟨w.heap.size, 0, none⟩ (.int .i64 p.1)).setCell ⟨w.heap.size, 1, none⟩ (.int .i64 p.2)).drew) := by
  have h1 := S.setCell_heap V w.heap.size 0 [.int .i64 0, .int .i64 0] _ (.int .i64 p.1) h.res
  have h2 := S.setCell_heap _ w.heap.size 1 _ _ (.int .i64 p.2) h1
  exact ⟨h2, ((h.bel.setCell (p := ⟨w.heap.size, 0, none⟩) (Nat.le_refl _) _).setCell (p := ⟨w.heap.size, 1, none⟩) (Nat.le_refl _) _).drew⟩
theorem ans_err {s : ByteArray} (hs : s.size ≤ 65536) {a : List (Nat × Nat)} {i : Nat} {er : Int} (h : sc s.data.toList = (a, i, er)) (he : er ≠ 0) : ans s = ([], T.place s.data.toList i, er) := by
  unfold ans; rw [if_neg (by omega), h]; simp only [if_neg he]
theorem below_cell0 {W W' : World} (h : Below W.heap.size W W') (a : Addr) (v : Value) (e : W.cell? a = some v) : W'.cell? a = some v := by
  rw [h.cell (World.block_lt_of_cell? W _ e)]; exact e
/-- A store of a whole row, as one step of a region that draws. -/
theorem step_store_row {ops : Array Oper} {o : Oper} {a : Act} {w : World} {K : Act → World → Prop} {Q : Exit → Act → World → Prop} {E : Prop} (hgd : o.guard = none) (ty : TypeId) (x y : Operand) (ho : o.op = .store ty x y)
    (g : Nat) (cells : Array Value) (hx : a.eval x = .pointer (some ⟨g, 0, none⟩)) (hy : a.eval y = .agg cells)
    (t : TypeId) (old : Array Value) (hg : w.heap[g]? = some (.cells old t (0, 0))) (hi : (Try.prog.info? ty).map (·.size) = some cells.size)
    (hold : old.size = cells.size) (h1 : cells.all (·.oneCell') = true) (h : K (a.put o.dst undef) (w.setRow g cells)) :
    if Region.wanted o (yielded ops a.tmps) = true then Oper.wp Try.prog o a w K Q else E := by
  have hw : Region.wanted o (yielded ops a.tmps) = true := by simp [Region.wanted, hgd]
  rw [if_pos hw]
  exact wp_store_row ty x y ho g cells hx hy t old hg hi hold h1 h
def RsRel (s : ByteArray) (w : World) (vO x6 x7 x8 : Value) (wr : World) : Prop := ∃ (i beg : Nat) (line : Int) (a : List (Nat × Nat)), x6 = .int .i64 line ∧ x7 = .int .i64 (beg : Int) ∧ x8 = .int .i64 (i : Int) ∧ T.At s.data.toList i line beg ∧ RS s w wr vO i a
theorem rscan_ok (s : ByteArray) (hs : s.size ≤ 65536) (w : World) :
    Calls Try.prog 15 #[.string s] w fun e w' => Sc w (ans s).1 (ans s).2.1 (ans s).2.2 e w' := by
  have hm : s.size ≤ maxLen := by unfold maxLen; omega
  obtain ⟨wA, hA⟩ : ∃ wA, w.alloc (.cells #[.int .i64 0, .int .i64 0] 24) = wA := ⟨_, rfl⟩
  have hb : Below w.heap.size w wA := by rw [← hA]; exact (Below.refl _ w).alloc (Nat.le_refl _) _
  have hz : wA.heap[w.heap.size]? = some (.cells #[.int .i64 0, .int .i64 0] 24 (0, 0)) := by rw [← hA]; exact heap_alloc_new w _
  go_enter Try.func15, Try.ntmps15
  go_wp2_with fail
  go_loopw [5, 6, 7, 8] (fun vO x6 x7 x8 wr => RsRel s w vO x6 x7 x8 wr) (fun _ _ _ x _ => s.size - (Lib.intOf x).toNat)
  case atStart => exact ⟨0, 0, 1, [], rfl, rfl, rfl, ⟨Nat.le_refl _, rfl, fun k hk a b => by omega⟩, At.start _, World.ownsRow_nil _ _ _ _, hz, hb⟩
  case round =>
    obtain ⟨i, beg, line, a, rfl, rfl, rfl, hT, hR⟩ := hrel
    have hi0 : i ≤ s.size := by have := hR.at_.le; rwa [size_list] at this
    by_cases hlt : i < s.size
    case neg =>
      have HN := hid (hR.at_.fin (by rw [size_list]; omega))
      have hZ := hR.res
      have hne : (u5).ownBlock ≠ some w.heap.size := fun e => by have := (hR.toks.lt _ e).1; omega
      have HR := hid hR
      clear hR hT
      go_wp2_with (refine wpList_store_row rfl 24 _ _ rfl w.heap.size _ rfl rfl 24 #[.int .i64 0, .int .i64 0] hZ (by exact sizeP) (by rfl) (by simp [Value.oneCell']) ?_)
      have ha : ans s = (a.map (tk s), (0, 0), 0) := by unfold ans; rw [if_neg (by omega), HN.out]; rfl
      rw [ha]
      exact scanw_fin (p := (0, 0)) hZ HR.out.bel rfl rfl rfl rfl rfl (by rw [len_map]; exact S.own_mono HR.out.toks (Nat.le_succ _)) hne
    have hl : i < s.data.toList.length := by rw [size_list]; exact hlt
    have hpl : T.place s.data.toList i = (line, (i : Int) - beg + 1) := hT.told i hT.le (Nat.le_refl _) (Nat.le_of_lt hl)
    have hlp := T.place_line_pos s.data.toList i
    rw [hpl] at hlp
    have hbl := hT.le
    obtain ⟨U, hU⟩ : ∃ U, wr.alloc (.cells #[.int .i64 0, .int .i64 0] 24) = U := ⟨_, rfl⟩
    have hzU : U.heap[wr.heap.size]? = some (.cells #[.int .i64 0, .int .i64 0] 24 (0, 0)) := by rw [← hU]; exact heap_alloc_new wr _
    have hbU : Below wr.heap.size wr U := by rw [← hU]; exact bel_alloc wr _
    obtain ⟨V, hV⟩ : ∃ V, U.setRow wr.heap.size #[.int .i64 line, .int .i64 ((i : Int) - beg + 1)] = V := ⟨_, rfl⟩
    have hyV : V.heap[wr.heap.size]? = some (.cells #[.int .i64 line, .int .i64 ((i : Int) - beg + 1)] 24 (0, 0)) := by rw [← hV]; exact setRow_heap U wr.heap.size _ _ _ _ hzU
    have hbV : Below wr.heap.size wr V := by rw [← hV]; exact Below.setRow hbU wr.heap.size (Nat.le_refl _) _
    have hRV := hR.below hbV
    have HR := hid hRV
    have HT := hid hT
    have HPL := hid hpl
    clear hR hRV hT hbU
    go_upto_block 2 with (refine wpList_store_row rfl 24 _ _ rfl wr.heap.size _ rfl rfl 24 #[.int .i64 0, .int .i64 0] hzU (by exact sizeP) (by rfl) (by simp [Value.oneCell']) ?_)
    go_cut [5, 8] (fun vO x wc => ∃ (j : Nat) (a' : List (Nat × Nat)), x = .int .i64 (j : Int) ∧ i < j ∧ RS s w wc vO j a')
    case first =>
      have hg := getD_byte s i hlt
      have hwe : wend s.data.toList i ≤ s.size := by have := wend_le s.data.toList i (Nat.le_of_lt hl); rwa [size_list] at this
      have hW := fun W => rword_any s i hm hi0 W
      rcases sp_cases s.data.toList i hl with ⟨h1, h2, h3, h⟩ | ⟨h1, h2, h3, h⟩ | ⟨h1, h2, h, h3⟩ | ⟨h1, h2, h3, h4, h⟩ | ⟨k, h1, h2, h3, h4, h⟩ | ⟨j, h1, h0, h2, h3, h4, h⟩ | ⟨j, h1, h0, h2, h3, h4, h5, h⟩ | ⟨j, h1, h0, h2, h3, h4, h5, h⟩
      · as_aux_lemma =>
          rw [hg] at h3
          have hbk := h3
          have HN := hid (HR.out.at_.to hl h)
          clear h h1 h2 h3 hg hl hwe hW
          go_wp2_with (first | (go_at_call 22; refine (rblank_any s[i].toNat _).mono ?_; rintro e w' ⟨rfl, rfl⟩; rw [hbk]))
          go_meet
          case rel => exact ⟨i + 1, a, by simp, by omega, HN.out, HR.out.toks, HR.out.res, HR.out.bel⟩
      · have hbk := h3
        have hsn := h2
        rw [hg] at hbk hsn
        have HN := hid (HR.out.at_.no hl h)
        have r0 := cell_of_row V w.heap.size 0 _ _ _ HR.out.res
        have r1 := cell_of_row V w.heap.size 1 _ _ _ HR.out.res
        have y0 := cell_of_row V wr.heap.size 0 _ _ _ hyV
        have y1 := cell_of_row V wr.heap.size 1 _ _ _ hyV
        simp only [List.getElem?_toArray, List.getElem?_cons_zero, List.getElem?_cons_succ] at r0 r1 y0 y1
        have z0 := frozen_of_row V w.heap.size 0 _ _ HR.out.res
        have z1 := frozen_of_row V w.heap.size 1 _ _ HR.out.res
        clear h h1 h2 h3 hg hl hwe hW
        go_wp2_with (first | (go_at_call 22; refine (rblank_any s[i].toNat _).mono ?_; rintro e w' ⟨rfl, rfl⟩; rw [hbk]) | (go_at_call 23; refine (let_any s[i].toNat _).mono ?_; rintro e w' ⟨rfl, rfl⟩; rw [hsn]))
        go_region
        all_goals
          go_wp2_with fail
          rw [ans_err hs HN.out (by decide), HPL.out]
          exact scanw_end (HR.out.err _).1 (HR.out.err _).2 rfl rfl rfl rfl rfl (World.ownsRow_nil _ _ _ _)
      · -- a comment to the line
        have hsn : T.seen (s[i]'hlt).toNat = true := by
          rcases wend_seen s.data.toList i hl with ⟨q, _⟩ | ⟨_, q⟩
          · omega
          · rw [hg] at q; exact q
        have hbk := bk_seen _ hsn
        simp only [h1] at hW
        have hwl : (s.extract i (i + 1)).data.toList = wd s.data.toList i (i + 1) := ext_list s i (i + 1)
        have e1 := list_is (s.extract i (i + 1)) 92 (by rw [hwl, h2])
        have hN := fun W => rbehind_any s (i + 1) 10 hs (by omega) W
        have hto := sp_to _ _ _ hl h
        have HN := hid (HR.out.at_.to hl h)
        rw [size_list] at hto HN
        simp only [h3] at hN
        cases hx : nxt 10 s.data.toList i with
        | none =>
          rw [hx] at hto HN
          simp only [hx, nI, Option.getD_none] at hN hto HN
          clear h h1 h2 h3 hg hl hwe hwl hx
          go_wp2_with (first | (go_at_call 22; refine (rblank_any s[i].toNat _).mono ?_; rintro e w' ⟨rfl, rfl⟩; rw [hbk]) | (go_at_call 23; refine (let_any s[i].toNat _).mono ?_; rintro e w' ⟨rfl, rfl⟩; rw [hsn]) | (go_at_call 24; refine (hW _).mono ?_; rintro e w' ⟨rfl, rfl⟩) | (go_at_call 25; refine (hN _).mono ?_; rintro e w' ⟨rfl, rfl⟩))
          go_meet
          case rel => exact ⟨s.size, a, rfl, by omega, HN.out, HR.out.toks, HR.out.res, HR.out.bel⟩
        | some k =>
          rw [hx] at hto HN
          simp only [hx, nI, Option.getD_some] at hN hto HN
          clear h h1 h2 h3 hg hl hwe hwl hx
          go_wp2_with (first | (go_at_call 22; refine (rblank_any s[i].toNat _).mono ?_; rintro e w' ⟨rfl, rfl⟩; rw [hbk]) | (go_at_call 23; refine (let_any s[i].toNat _).mono ?_; rintro e w' ⟨rfl, rfl⟩; rw [hsn]) | (go_at_call 24; refine (hW _).mono ?_; rintro e w' ⟨rfl, rfl⟩) | (go_at_call 25; refine (hN _).mono ?_; rintro e w' ⟨rfl, rfl⟩))
          go_meet
          case rel => exact ⟨k, a, rfl, by omega, HN.out, HR.out.toks, HR.out.res, HR.out.bel⟩
      · -- a comment that does not end
        have hsn : T.seen (s[i]'hlt).toNat = true := by
          rcases wend_seen s.data.toList i hl with ⟨q, _⟩ | ⟨_, q⟩
          · omega
          · rw [hg] at q; exact q
        have hbk := bk_seen _ hsn
        simp only [h1] at hW
        have hwl : (s.extract i (i + 1)).data.toList = wd s.data.toList i (i + 1) := ext_list s i (i + 1)
        have e1 := list_no (s.extract i (i + 1)) 92 (by rw [hwl, h2]; decide)
        have e2 := list_is (s.extract i (i + 1)) 40 (by rw [hwl, h2])
        have hN := fun W => rbehind_any s (i + 1) 41 hs (by omega) W
        simp only [h4, nI] at hN
        have HN := hid (HR.out.at_.no hl h)
        have r0 := cell_of_row V w.heap.size 0 _ _ _ HR.out.res
        have r1 := cell_of_row V w.heap.size 1 _ _ _ HR.out.res
        have y0 := cell_of_row V wr.heap.size 0 _ _ _ hyV
        have y1 := cell_of_row V wr.heap.size 1 _ _ _ hyV
        simp only [List.getElem?_toArray, List.getElem?_cons_zero, List.getElem?_cons_succ] at r0 r1 y0 y1
        have z0 := frozen_of_row V w.heap.size 0 _ _ HR.out.res
        have z1 := frozen_of_row V w.heap.size 1 _ _ HR.out.res
        clear h h1 h2 h3 h4 hg hl hwe hwl
        go_wp2_with (first | (go_at_call 22; refine (rblank_any s[i].toNat _).mono ?_; rintro e w' ⟨rfl, rfl⟩; rw [hbk]) | (go_at_call 23; refine (let_any s[i].toNat _).mono ?_; rintro e w' ⟨rfl, rfl⟩; rw [hsn]) | (go_at_call 24; refine (hW _).mono ?_; rintro e w' ⟨rfl, rfl⟩) | (go_at_call 25; refine (hN _).mono ?_; rintro e w' ⟨rfl, rfl⟩))
        go_region
        all_goals
          go_wp2_with fail
          rw [ans_err hs HN.out (by decide), HPL.out]
          exact scanw_end (HR.out.err _).1 (HR.out.err _).2 rfl rfl rfl rfl rfl (World.ownsRow_nil _ _ _ _)
      · -- a comment in brackets
        have hsn : T.seen (s[i]'hlt).toNat = true := by
          rcases wend_seen s.data.toList i hl with ⟨q, _⟩ | ⟨_, q⟩
          · omega
          · rw [hg] at q; exact q
        have hbk := bk_seen _ hsn
        simp only [h1] at hW
        have hwl : (s.extract i (i + 1)).data.toList = wd s.data.toList i (i + 1) := ext_list s i (i + 1)
        have e1 := list_no (s.extract i (i + 1)) 92 (by rw [hwl, h2]; decide)
        have e2 := list_is (s.extract i (i + 1)) 40 (by rw [hwl, h2])
        have hN := fun W => rbehind_any s (i + 1) 41 hs (by omega) W
        simp only [h4, nI] at hN
        have hto := sp_to _ _ _ hl h
        have HN := hid (HR.out.at_.to hl h)
        rw [size_list] at hto
        clear h h1 h2 h3 h4 hg hl hwe hwl
        go_wp2_with (first | (go_at_call 22; refine (rblank_any s[i].toNat _).mono ?_; rintro e w' ⟨rfl, rfl⟩; rw [hbk]) | (go_at_call 23; refine (let_any s[i].toNat _).mono ?_; rintro e w' ⟨rfl, rfl⟩; rw [hsn]) | (go_at_call 24; refine (hW _).mono ?_; rintro e w' ⟨rfl, rfl⟩) | (go_at_call 25; refine (hN _).mono ?_; rintro e w' ⟨rfl, rfl⟩))
        go_meet
        case rel => exact ⟨k, a, rfl, by omega, HN.out, HR.out.toks, HR.out.res, HR.out.bel⟩
      · -- a wide word
        have hsn : T.seen (s[i]'hlt).toNat = true := by
          rcases wend_seen s.data.toList i hl with ⟨q, _⟩ | ⟨_, q⟩
          · omega
          · rw [hg] at q; exact q
        have hbk := bk_seen _ hsn
        simp only [h1] at hW
        have hwl : (s.extract i j).data.toList = wd s.data.toList i j := ext_list s i j
        rw [h1] at hwe
        have hsz := ext_size s i j hwe
        have e1 := list_no (s.extract i j) 92 (by rw [hwl]; exact h2)
        have e2 := list_no (s.extract i j) 40 (by rw [hwl]; exact h3)
        have hij : i ≤ j := Nat.le_of_lt h0
        have y0 := cell_of_row V wr.heap.size 0 _ _ _ hyV
        have y1 := cell_of_row V wr.heap.size 1 _ _ _ hyV
        simp only [List.getElem?_toArray, List.getElem?_cons_zero, List.getElem?_cons_succ] at y0 y1
        have hT := fun W => rtoken_wide (s.extract i j) (by rw [hsz]; exact h4) (by rw [hsz]; omega) (line, (i : Int) - beg + 1) W
        simp only [pv, pc, tv, tc] at hT
        have HN := hid (HR.out.at_.no hl h)
        clear h h1 h2 h3  hg hl hwl
        go_upto_region 11 with (first | (go_at_call 22; refine (rblank_any s[i].toNat _).mono ?_; rintro e w' ⟨rfl, rfl⟩; rw [hbk]) | (go_at_call 23; refine (let_any s[i].toNat _).mono ?_; rintro e w' ⟨rfl, rfl⟩; rw [hsn]) | (go_at_call 24; refine (hW _).mono ?_; rintro e w' ⟨rfl, rfl⟩))
        go_cut [12, 13] (fun x12 x13 wx => ∃ b, x12 = .pointer (some ⟨b, 0, none⟩) ∧ x13 = .int .i64 93 ∧ wx.heap[b]? = some (.cells (tc 0 { data := #[] } 0 (0, 0)) 30 (0, 0)) ∧ Below w'.heap.size w' wx)
        case first =>
          as_aux_lemma =>
            have s0 : (fun wz => wz.cell? ⟨wr.heap.size, 0, none⟩ = some (.int .i64 line) ∧ wz.cell? ⟨wr.heap.size, 1, none⟩ = some (.int .i64 ((i : Int) - beg + 1))) w'.drew := ⟨y0, y1⟩
            refine wp_region_held_drew (S := (fun wz => wz.cell? ⟨wr.heap.size, 0, none⟩ = some (.int .i64 line) ∧ wz.cell? ⟨wr.heap.size, 1, none⟩ = some (.int .i64 ((i : Int) - beg + 1)))) (by kernel_rfl) s0 (fun hHeld => ?_)
            have hbd : Below w'.heap.size w' w'.drew := (Below.refl _ _).drew
            generalize hWd : w'.drew = Wd at *
            refine wpAnyH_take (i := 0) (v := ?_) rfl (by kernel_rfl) (by kernel_rfl) (by kernel_rfl) (fun c a w h => h) (Or.inl ⟨by rfl, ?_⟩) hHeld ?_
            rotate_left
            · (intro w hSw; (try dsimp only at hSw); go_simp; try with_reducible rfl)
            simp only [Act.put, List.setIfInBounds_toArray, List.set_cons_zero, List.set_cons_succ]
            refine wpAnyH_take (i := 1) (v := ?_) rfl (by kernel_rfl) (by kernel_rfl) (by kernel_rfl) (fun c a w h => h) (Or.inl ⟨by rfl, ?_⟩) hHeld ?_
            rotate_left
            · (intro w hSw; (try dsimp only at hSw); go_simp; try with_reducible rfl)
            simp only [Act.put, List.setIfInBounds_toArray, List.set_cons_zero, List.set_cons_succ]
            refine wpAnyH_take (i := 2) (v := ?_) rfl (by kernel_rfl) (by kernel_rfl) (by kernel_rfl) (fun c a w h => h) (Or.inl ⟨by rfl, ?_⟩) hHeld ?_
            rotate_left
            · (intro w hSw; (try dsimp only at hSw); go_simp; try with_reducible rfl)
            simp only [Act.put, List.setIfInBounds_toArray, List.set_cons_zero, List.set_cons_succ]
            refine wpAnyH_take (i := 3) (v := ?_) rfl (by kernel_rfl) (by kernel_rfl) (by kernel_rfl) (fun c a w h => h) (Or.inl ⟨by rfl, ?_⟩) hHeld ?_
            rotate_left
            · (intro w hSw; (try dsimp only at hSw); go_simp; try with_reducible rfl)
            simp only [Act.put, List.setIfInBounds_toArray, List.set_cons_zero, List.set_cons_succ]
            refine wpAnyH_take (i := 4) (v := ?_) rfl (by kernel_rfl) (by kernel_rfl) (by kernel_rfl) (fun c a w h => h) (Or.inl ⟨by rfl, ?_⟩) hHeld ?_
            rotate_left
            · (intro w hSw; (try dsimp only at hSw); go_simp; try with_reducible rfl)
            simp only [Act.put, List.setIfInBounds_toArray, List.set_cons_zero, List.set_cons_succ]
            refine wpAnyH_ready (rs := [5, 9]) (by kernel_rfl) (by simp) ?_
            refine AllReadyH.cons rfl (fun K hK => ?_) (AllReadyH.cons rfl (fun K hK => ?_) AllReadyH.nil)
            · go_simp
              refine (hT _).mono ?_
              rintro e w1 ⟨rfl, hb1⟩
              have s1 : (fun wz => wz.cell? ⟨wr.heap.size, 0, none⟩ = some (.int .i64 line) ∧ wz.cell? ⟨wr.heap.size, 1, none⟩ = some (.int .i64 ((i : Int) - beg + 1))) w1 := ⟨below_cell0 hb1 _ _ s0.1, below_cell0 hb1 _ _ s0.2⟩
              refine hK.out _ _ s1 (fun hHeld => ?_)
              clear hK K
              try simp only [Act.put, List.setIfInBounds_toArray, List.set_cons_zero, List.set_cons_succ]
              refine wpAnyH_take (i := 6) (v := ?_) rfl (by kernel_rfl) (by kernel_rfl) (by kernel_rfl) (fun c a w h => h) (Or.inl ⟨by rfl, ?_⟩) hHeld ?_
              rotate_left
              · (intro w hSw; (try dsimp only at hSw); go_simp; try with_reducible rfl)
              simp only [Act.put, List.setIfInBounds_toArray, List.set_cons_zero, List.set_cons_succ]
              refine wpAnyH_take (i := 7) (v := ?_) rfl (by kernel_rfl) (by kernel_rfl) (by kernel_rfl) (fun c a w h => h) (Or.inl ⟨by rfl, ?_⟩) hHeld ?_
              rotate_left
              · (intro w hSw; (try dsimp only at hSw); go_simp; try with_reducible rfl)
              simp only [Act.put, List.setIfInBounds_toArray, List.set_cons_zero, List.set_cons_succ]
              refine wpAnyH_take (i := 8) (v := ?_) rfl (by kernel_rfl) (by kernel_rfl) (by kernel_rfl) (fun c a w h => h) (Or.inl ⟨by rfl, ?_⟩) hHeld ?_
              rotate_left
              · (intro w hSw; (try dsimp only at hSw); go_simp; try with_reducible rfl)
              simp only [Act.put, List.setIfInBounds_toArray, List.set_cons_zero, List.set_cons_succ]
              obtain ⟨U1, hU1⟩ : ∃ U1, w1.alloc (.cells #[.int .i64 0, .string { data := #[] }, .int .u16 0, .int .i64 0, .int .i64 0] 30) = U1 := ⟨_, rfl⟩
              have hz1 : U1.heap[w1.heap.size]? = some (.cells zc 30 (0, 0)) := by rw [← hU1]; exact heap_alloc_new w1 _
              have hbU1 : Below w1.heap.size w1 U1 := by rw [← hU1]; exact bel_alloc w1 _
              have s2 : (fun wz => wz.cell? ⟨wr.heap.size, 0, none⟩ = some (.int .i64 line) ∧ wz.cell? ⟨wr.heap.size, 1, none⟩ = some (.int .i64 ((i : Int) - beg + 1))) U1 := ⟨below_cell0 hbU1 _ _ s1.1, below_cell0 hbU1 _ _ s1.2⟩
              have hbr := Below.setRow hbU1 w1.heap.size (Nat.le_refl _) #[.int .i64 0, .string { data := #[] }, .int .u16 0, .int .i64 0, .int .i64 0]
              have s3 : (fun wz => wz.cell? ⟨wr.heap.size, 0, none⟩ = some (.int .i64 line) ∧ wz.cell? ⟨wr.heap.size, 1, none⟩ = some (.int .i64 ((i : Int) - beg + 1))) (U1.setRow w1.heap.size #[.int .i64 0, .string { data := #[] }, .int .u16 0, .int .i64 0, .int .i64 0]) := ⟨below_cell0 hbr _ _ s1.1, below_cell0 hbr _ _ s1.2⟩
              refine wpAnyH_ready (rs := [9]) (by kernel_rfl) (by simp) ?_
              refine AllReadyH.cons rfl (fun K hK => ?_) AllReadyH.nil
              go_simp
              try rw [hU1]
              refine hK.out _ _ s2 (fun hHeld => ?_)
              clear hK K
              try simp only [Act.put, List.setIfInBounds_toArray, List.set_cons_zero, List.set_cons_succ]
              refine wpAnyH_ready (rs := [10]) (by kernel_rfl) (by simp) ?_
              refine AllReadyH.cons rfl (fun K hK => ?_) AllReadyH.nil
              refine step_store_row rfl 30 (.tmp 12) (.tmp 44) rfl w1.heap.size #[.int .i64 0, .string { data := #[] }, .int .u16 0, .int .i64 0, .int .i64 0] (by simp [Act.eval]) (by simp [Act.eval]) 30 zc hz1 (by exact sizeT) (by rfl) (by simp [Value.oneCell']) ?_
              refine hK.out _ _ s3 (fun hHeld => ?_)
              clear hK K
              try simp only [Act.put, List.setIfInBounds_toArray, List.set_cons_zero, List.set_cons_succ]
              refine wpAnyH_ready (rs := [11]) (by kernel_rfl) (by simp) ?_
              refine AllReadyH.cons rfl (fun K hK => ?_) AllReadyH.nil
              go_simp
              refine hK.out _ _ s3 (fun hHeld => ?_)
              clear hK K
              try simp only [Act.put, List.setIfInBounds_toArray, List.set_cons_zero, List.set_cons_succ]
              refine wpAnyH_done (by kernel_rfl) ?_ _
              clear hHeld
              try simp only [Act.put, List.setIfInBounds_toArray, List.set_cons_zero, List.set_cons_succ]
              go_wp2_with fail
              go_meet
              case rel => exact ⟨w1.heap.size, rfl, rfl, setRow_heap U1 w1.heap.size _ _ _ _ hz1, trB hbd (trB hb1 hbr hb1.size) hbd.size⟩
            · obtain ⟨U1, hU1⟩ : ∃ U1, Wd.alloc (.cells #[.int .i64 0, .string { data := #[] }, .int .u16 0, .int .i64 0, .int .i64 0] 30) = U1 := ⟨_, rfl⟩
              have hz1 : U1.heap[Wd.heap.size]? = some (.cells zc 30 (0, 0)) := by rw [← hU1]; exact heap_alloc_new Wd _
              have hbU1 : Below Wd.heap.size Wd U1 := by rw [← hU1]; exact bel_alloc Wd _
              have s1 : (fun wz => wz.cell? ⟨wr.heap.size, 0, none⟩ = some (.int .i64 line) ∧ wz.cell? ⟨wr.heap.size, 1, none⟩ = some (.int .i64 ((i : Int) - beg + 1))) U1 := ⟨below_cell0 hbU1 _ _ s0.1, below_cell0 hbU1 _ _ s0.2⟩
              go_simp
              try rw [hU1]
              refine hK.out _ _ s1 (fun hHeld => ?_)
              clear hK K
              try simp only [Act.put, List.setIfInBounds_toArray, List.set_cons_zero, List.set_cons_succ]
              refine wpAnyH_ready (rs := [5]) (by kernel_rfl) (by simp) ?_
              refine AllReadyH.cons rfl (fun K hK => ?_) AllReadyH.nil
              go_simp
              refine (hT _).mono ?_
              rintro e w1 ⟨rfl, hb1⟩
              have hz2 : w1.heap[Wd.heap.size]? = some (.cells zc 30 (0, 0)) := (hb1.block _ (lt_of hz1)).trans hz1
              have s2 : (fun wz => wz.cell? ⟨wr.heap.size, 0, none⟩ = some (.int .i64 line) ∧ wz.cell? ⟨wr.heap.size, 1, none⟩ = some (.int .i64 ((i : Int) - beg + 1))) w1 := ⟨below_cell0 hb1 _ _ s1.1, below_cell0 hb1 _ _ s1.2⟩
              have hbr := Below.setRow (trB hbU1 hb1 hbU1.size) Wd.heap.size (Nat.le_refl _) #[.int .i64 0, .string { data := #[] }, .int .u16 0, .int .i64 0, .int .i64 0]
              have s3 : (fun wz => wz.cell? ⟨wr.heap.size, 0, none⟩ = some (.int .i64 line) ∧ wz.cell? ⟨wr.heap.size, 1, none⟩ = some (.int .i64 ((i : Int) - beg + 1))) (w1.setRow Wd.heap.size #[.int .i64 0, .string { data := #[] }, .int .u16 0, .int .i64 0, .int .i64 0]) := ⟨below_cell0 hbr _ _ s0.1, below_cell0 hbr _ _ s0.2⟩
              refine hK.out _ _ s2 (fun hHeld => ?_)
              clear hK K
              try simp only [Act.put, List.setIfInBounds_toArray, List.set_cons_zero, List.set_cons_succ]
              refine wpAnyH_take (i := 6) (v := ?_) rfl (by kernel_rfl) (by kernel_rfl) (by kernel_rfl) (fun c a w h => h) (Or.inl ⟨by rfl, ?_⟩) hHeld ?_
              rotate_left
              · (intro w hSw; (try dsimp only at hSw); go_simp; try with_reducible rfl)
              simp only [Act.put, List.setIfInBounds_toArray, List.set_cons_zero, List.set_cons_succ]
              refine wpAnyH_take (i := 7) (v := ?_) rfl (by kernel_rfl) (by kernel_rfl) (by kernel_rfl) (fun c a w h => h) (Or.inl ⟨by rfl, ?_⟩) hHeld ?_
              rotate_left
              · (intro w hSw; (try dsimp only at hSw); go_simp; try with_reducible rfl)
              simp only [Act.put, List.setIfInBounds_toArray, List.set_cons_zero, List.set_cons_succ]
              refine wpAnyH_take (i := 8) (v := ?_) rfl (by kernel_rfl) (by kernel_rfl) (by kernel_rfl) (fun c a w h => h) (Or.inl ⟨by rfl, ?_⟩) hHeld ?_
              rotate_left
              · (intro w hSw; (try dsimp only at hSw); go_simp; try with_reducible rfl)
              simp only [Act.put, List.setIfInBounds_toArray, List.set_cons_zero, List.set_cons_succ]
              refine wpAnyH_ready (rs := [10]) (by kernel_rfl) (by simp) ?_
              refine AllReadyH.cons rfl (fun K hK => ?_) AllReadyH.nil
              refine step_store_row rfl 30 (.tmp 12) (.tmp 44) rfl Wd.heap.size #[.int .i64 0, .string { data := #[] }, .int .u16 0, .int .i64 0, .int .i64 0] (by simp [Act.eval]) (by simp [Act.eval]) 30 zc hz2 (by exact sizeT) (by rfl) (by simp [Value.oneCell']) ?_
              refine hK.out _ _ s3 (fun hHeld => ?_)
              clear hK K
              try simp only [Act.put, List.setIfInBounds_toArray, List.set_cons_zero, List.set_cons_succ]
              refine wpAnyH_ready (rs := [11]) (by kernel_rfl) (by simp) ?_
              refine AllReadyH.cons rfl (fun K hK => ?_) AllReadyH.nil
              go_simp
              refine hK.out _ _ s3 (fun hHeld => ?_)
              clear hK K
              try simp only [Act.put, List.setIfInBounds_toArray, List.set_cons_zero, List.set_cons_succ]
              refine wpAnyH_done (by kernel_rfl) ?_ _
              clear hHeld
              try simp only [Act.put, List.setIfInBounds_toArray, List.set_cons_zero, List.set_cons_succ]
              go_wp2_with fail
              go_meet
              case rel => exact ⟨Wd.heap.size, rfl, rfl, setRow_heap w1 Wd.heap.size _ _ _ _ hz2, trB hbd hbr hbd.size⟩
        case rest =>
          skip
          · skip
            obtain ⟨b, rfl, rfl, hbz, hbx⟩ := hcut
            have HR2 := hid (HR.out.below hbx)
            have y0 := below_cell0 hbx _ _ y0
            have y1 := below_cell0 hbx _ _ y1
            have r0 := cell_of_row _ w.heap.size 0 _ _ _ HR2.out.res
            have r1 := cell_of_row _ w.heap.size 1 _ _ _ HR2.out.res
            simp only [List.getElem?_toArray, List.getElem?_cons_zero, List.getElem?_cons_succ] at r0 r1
            have z0 := frozen_of_row _ w.heap.size 0 _ _ HR2.out.res
            have z1 := frozen_of_row _ w.heap.size 1 _ _ HR2.out.res
            clear hbz hbx
            go_wp2_with fail
            go_region
            all_goals
              go_wp2_with fail
              rw [ans_err hs HN.out (by decide), HPL.out]
              exact scanw_end (HR2.out.err _).1 (HR2.out.err _).2 rfl rfl rfl rfl rfl (World.ownsRow_nil _ _ _ _)
      · -- a great numeral
        have hsn : T.seen (s[i]'hlt).toNat = true := by
          rcases wend_seen s.data.toList i hl with ⟨q, _⟩ | ⟨_, q⟩
          · omega
          · rw [hg] at q; exact q
        have hbk := bk_seen _ hsn
        simp only [h1] at hW
        have hwl : (s.extract i j).data.toList = wd s.data.toList i j := ext_list s i j
        rw [h1] at hwe
        have hsz := ext_size s i j hwe
        have e1 := list_no (s.extract i j) 92 (by rw [hwl]; exact h2)
        have e2 := list_no (s.extract i j) 40 (by rw [hwl]; exact h3)
        have hij : i ≤ j := Nat.le_of_lt h0
        have y0 := cell_of_row V wr.heap.size 0 _ _ _ hyV
        have y1 := cell_of_row V wr.heap.size 1 _ _ _ hyV
        simp only [List.getElem?_toArray, List.getElem?_cons_zero, List.getElem?_cons_succ] at y0 y1
        have hT := fun W => rtoken_great (s.extract i j) (by rw [hsz]; omega) (by rw [hsz]; exact h4) (by rw [hwl]; exact h5) (line, (i : Int) - beg + 1) W
        simp only [pv, pc, tv, tc] at hT
        have HN := hid (HR.out.at_.no hl h)
        clear h h1 h2 h3 h5 hg hl hwl
        go_upto_region 11 with (first | (go_at_call 22; refine (rblank_any s[i].toNat _).mono ?_; rintro e w' ⟨rfl, rfl⟩; rw [hbk]) | (go_at_call 23; refine (let_any s[i].toNat _).mono ?_; rintro e w' ⟨rfl, rfl⟩; rw [hsn]) | (go_at_call 24; refine (hW _).mono ?_; rintro e w' ⟨rfl, rfl⟩))
        go_cut [12, 13] (fun x12 x13 wx => ∃ b, x12 = .pointer (some ⟨b, 0, none⟩) ∧ x13 = .int .i64 21 ∧ wx.heap[b]? = some (.cells (tc 0 { data := #[] } 0 (0, 0)) 30 (0, 0)) ∧ Below w'.heap.size w' wx)
        case first =>
          as_aux_lemma =>
            have s0 : (fun wz => wz.cell? ⟨wr.heap.size, 0, none⟩ = some (.int .i64 line) ∧ wz.cell? ⟨wr.heap.size, 1, none⟩ = some (.int .i64 ((i : Int) - beg + 1))) w'.drew := ⟨y0, y1⟩
            refine wp_region_held_drew (S := (fun wz => wz.cell? ⟨wr.heap.size, 0, none⟩ = some (.int .i64 line) ∧ wz.cell? ⟨wr.heap.size, 1, none⟩ = some (.int .i64 ((i : Int) - beg + 1)))) (by kernel_rfl) s0 (fun hHeld => ?_)
            have hbd : Below w'.heap.size w' w'.drew := (Below.refl _ _).drew
            generalize hWd : w'.drew = Wd at *
            refine wpAnyH_take (i := 0) (v := ?_) rfl (by kernel_rfl) (by kernel_rfl) (by kernel_rfl) (fun c a w h => h) (Or.inl ⟨by rfl, ?_⟩) hHeld ?_
            rotate_left
            · (intro w hSw; (try dsimp only at hSw); go_simp; try with_reducible rfl)
            simp only [Act.put, List.setIfInBounds_toArray, List.set_cons_zero, List.set_cons_succ]
            refine wpAnyH_take (i := 1) (v := ?_) rfl (by kernel_rfl) (by kernel_rfl) (by kernel_rfl) (fun c a w h => h) (Or.inl ⟨by rfl, ?_⟩) hHeld ?_
            rotate_left
            · (intro w hSw; (try dsimp only at hSw); go_simp; try with_reducible rfl)
            simp only [Act.put, List.setIfInBounds_toArray, List.set_cons_zero, List.set_cons_succ]
            refine wpAnyH_take (i := 2) (v := ?_) rfl (by kernel_rfl) (by kernel_rfl) (by kernel_rfl) (fun c a w h => h) (Or.inl ⟨by rfl, ?_⟩) hHeld ?_
            rotate_left
            · (intro w hSw; (try dsimp only at hSw); go_simp; try with_reducible rfl)
            simp only [Act.put, List.setIfInBounds_toArray, List.set_cons_zero, List.set_cons_succ]
            refine wpAnyH_take (i := 3) (v := ?_) rfl (by kernel_rfl) (by kernel_rfl) (by kernel_rfl) (fun c a w h => h) (Or.inl ⟨by rfl, ?_⟩) hHeld ?_
            rotate_left
            · (intro w hSw; (try dsimp only at hSw); go_simp; try with_reducible rfl)
            simp only [Act.put, List.setIfInBounds_toArray, List.set_cons_zero, List.set_cons_succ]
            refine wpAnyH_take (i := 4) (v := ?_) rfl (by kernel_rfl) (by kernel_rfl) (by kernel_rfl) (fun c a w h => h) (Or.inl ⟨by rfl, ?_⟩) hHeld ?_
            rotate_left
            · (intro w hSw; (try dsimp only at hSw); go_simp; try with_reducible rfl)
            simp only [Act.put, List.setIfInBounds_toArray, List.set_cons_zero, List.set_cons_succ]
            refine wpAnyH_ready (rs := [5, 9]) (by kernel_rfl) (by simp) ?_
            refine AllReadyH.cons rfl (fun K hK => ?_) (AllReadyH.cons rfl (fun K hK => ?_) AllReadyH.nil)
            · go_simp
              refine (hT _).mono ?_
              rintro e w1 ⟨rfl, hb1⟩
              have s1 : (fun wz => wz.cell? ⟨wr.heap.size, 0, none⟩ = some (.int .i64 line) ∧ wz.cell? ⟨wr.heap.size, 1, none⟩ = some (.int .i64 ((i : Int) - beg + 1))) w1 := ⟨below_cell0 hb1 _ _ s0.1, below_cell0 hb1 _ _ s0.2⟩
              refine hK.out _ _ s1 (fun hHeld => ?_)
              clear hK K
              try simp only [Act.put, List.setIfInBounds_toArray, List.set_cons_zero, List.set_cons_succ]
              refine wpAnyH_take (i := 6) (v := ?_) rfl (by kernel_rfl) (by kernel_rfl) (by kernel_rfl) (fun c a w h => h) (Or.inl ⟨by rfl, ?_⟩) hHeld ?_
              rotate_left
              · (intro w hSw; (try dsimp only at hSw); go_simp; try with_reducible rfl)
              simp only [Act.put, List.setIfInBounds_toArray, List.set_cons_zero, List.set_cons_succ]
              refine wpAnyH_take (i := 7) (v := ?_) rfl (by kernel_rfl) (by kernel_rfl) (by kernel_rfl) (fun c a w h => h) (Or.inl ⟨by rfl, ?_⟩) hHeld ?_
              rotate_left
              · (intro w hSw; (try dsimp only at hSw); go_simp; try with_reducible rfl)
              simp only [Act.put, List.setIfInBounds_toArray, List.set_cons_zero, List.set_cons_succ]
              refine wpAnyH_take (i := 8) (v := ?_) rfl (by kernel_rfl) (by kernel_rfl) (by kernel_rfl) (fun c a w h => h) (Or.inl ⟨by rfl, ?_⟩) hHeld ?_
              rotate_left
              · (intro w hSw; (try dsimp only at hSw); go_simp; try with_reducible rfl)
              simp only [Act.put, List.setIfInBounds_toArray, List.set_cons_zero, List.set_cons_succ]
              obtain ⟨U1, hU1⟩ : ∃ U1, w1.alloc (.cells #[.int .i64 0, .string { data := #[] }, .int .u16 0, .int .i64 0, .int .i64 0] 30) = U1 := ⟨_, rfl⟩
              have hz1 : U1.heap[w1.heap.size]? = some (.cells zc 30 (0, 0)) := by rw [← hU1]; exact heap_alloc_new w1 _
              have hbU1 : Below w1.heap.size w1 U1 := by rw [← hU1]; exact bel_alloc w1 _
              have s2 : (fun wz => wz.cell? ⟨wr.heap.size, 0, none⟩ = some (.int .i64 line) ∧ wz.cell? ⟨wr.heap.size, 1, none⟩ = some (.int .i64 ((i : Int) - beg + 1))) U1 := ⟨below_cell0 hbU1 _ _ s1.1, below_cell0 hbU1 _ _ s1.2⟩
              have hbr := Below.setRow hbU1 w1.heap.size (Nat.le_refl _) #[.int .i64 0, .string { data := #[] }, .int .u16 0, .int .i64 0, .int .i64 0]
              have s3 : (fun wz => wz.cell? ⟨wr.heap.size, 0, none⟩ = some (.int .i64 line) ∧ wz.cell? ⟨wr.heap.size, 1, none⟩ = some (.int .i64 ((i : Int) - beg + 1))) (U1.setRow w1.heap.size #[.int .i64 0, .string { data := #[] }, .int .u16 0, .int .i64 0, .int .i64 0]) := ⟨below_cell0 hbr _ _ s1.1, below_cell0 hbr _ _ s1.2⟩
              refine wpAnyH_ready (rs := [9]) (by kernel_rfl) (by simp) ?_
              refine AllReadyH.cons rfl (fun K hK => ?_) AllReadyH.nil
              go_simp
              try rw [hU1]
              refine hK.out _ _ s2 (fun hHeld => ?_)
              clear hK K
              try simp only [Act.put, List.setIfInBounds_toArray, List.set_cons_zero, List.set_cons_succ]
              refine wpAnyH_ready (rs := [10]) (by kernel_rfl) (by simp) ?_
              refine AllReadyH.cons rfl (fun K hK => ?_) AllReadyH.nil
              refine step_store_row rfl 30 (.tmp 12) (.tmp 44) rfl w1.heap.size #[.int .i64 0, .string { data := #[] }, .int .u16 0, .int .i64 0, .int .i64 0] (by simp [Act.eval]) (by simp [Act.eval]) 30 zc hz1 (by exact sizeT) (by rfl) (by simp [Value.oneCell']) ?_
              refine hK.out _ _ s3 (fun hHeld => ?_)
              clear hK K
              try simp only [Act.put, List.setIfInBounds_toArray, List.set_cons_zero, List.set_cons_succ]
              refine wpAnyH_ready (rs := [11]) (by kernel_rfl) (by simp) ?_
              refine AllReadyH.cons rfl (fun K hK => ?_) AllReadyH.nil
              go_simp
              refine hK.out _ _ s3 (fun hHeld => ?_)
              clear hK K
              try simp only [Act.put, List.setIfInBounds_toArray, List.set_cons_zero, List.set_cons_succ]
              refine wpAnyH_done (by kernel_rfl) ?_ _
              clear hHeld
              try simp only [Act.put, List.setIfInBounds_toArray, List.set_cons_zero, List.set_cons_succ]
              go_wp2_with fail
              go_meet
              case rel => exact ⟨w1.heap.size, rfl, rfl, setRow_heap U1 w1.heap.size _ _ _ _ hz1, trB hbd (trB hb1 hbr hb1.size) hbd.size⟩
            · obtain ⟨U1, hU1⟩ : ∃ U1, Wd.alloc (.cells #[.int .i64 0, .string { data := #[] }, .int .u16 0, .int .i64 0, .int .i64 0] 30) = U1 := ⟨_, rfl⟩
              have hz1 : U1.heap[Wd.heap.size]? = some (.cells zc 30 (0, 0)) := by rw [← hU1]; exact heap_alloc_new Wd _
              have hbU1 : Below Wd.heap.size Wd U1 := by rw [← hU1]; exact bel_alloc Wd _
              have s1 : (fun wz => wz.cell? ⟨wr.heap.size, 0, none⟩ = some (.int .i64 line) ∧ wz.cell? ⟨wr.heap.size, 1, none⟩ = some (.int .i64 ((i : Int) - beg + 1))) U1 := ⟨below_cell0 hbU1 _ _ s0.1, below_cell0 hbU1 _ _ s0.2⟩
              go_simp
              try rw [hU1]
              refine hK.out _ _ s1 (fun hHeld => ?_)
              clear hK K
              try simp only [Act.put, List.setIfInBounds_toArray, List.set_cons_zero, List.set_cons_succ]
              refine wpAnyH_ready (rs := [5]) (by kernel_rfl) (by simp) ?_
              refine AllReadyH.cons rfl (fun K hK => ?_) AllReadyH.nil
              go_simp
              refine (hT _).mono ?_
              rintro e w1 ⟨rfl, hb1⟩
              have hz2 : w1.heap[Wd.heap.size]? = some (.cells zc 30 (0, 0)) := (hb1.block _ (lt_of hz1)).trans hz1
              have s2 : (fun wz => wz.cell? ⟨wr.heap.size, 0, none⟩ = some (.int .i64 line) ∧ wz.cell? ⟨wr.heap.size, 1, none⟩ = some (.int .i64 ((i : Int) - beg + 1))) w1 := ⟨below_cell0 hb1 _ _ s1.1, below_cell0 hb1 _ _ s1.2⟩
              have hbr := Below.setRow (trB hbU1 hb1 hbU1.size) Wd.heap.size (Nat.le_refl _) #[.int .i64 0, .string { data := #[] }, .int .u16 0, .int .i64 0, .int .i64 0]
              have s3 : (fun wz => wz.cell? ⟨wr.heap.size, 0, none⟩ = some (.int .i64 line) ∧ wz.cell? ⟨wr.heap.size, 1, none⟩ = some (.int .i64 ((i : Int) - beg + 1))) (w1.setRow Wd.heap.size #[.int .i64 0, .string { data := #[] }, .int .u16 0, .int .i64 0, .int .i64 0]) := ⟨below_cell0 hbr _ _ s0.1, below_cell0 hbr _ _ s0.2⟩
              refine hK.out _ _ s2 (fun hHeld => ?_)
              clear hK K
              try simp only [Act.put, List.setIfInBounds_toArray, List.set_cons_zero, List.set_cons_succ]
              refine wpAnyH_take (i := 6) (v := ?_) rfl (by kernel_rfl) (by kernel_rfl) (by kernel_rfl) (fun c a w h => h) (Or.inl ⟨by rfl, ?_⟩) hHeld ?_
              rotate_left
              · (intro w hSw; (try dsimp only at hSw); go_simp; try with_reducible rfl)
              simp only [Act.put, List.setIfInBounds_toArray, List.set_cons_zero, List.set_cons_succ]
              refine wpAnyH_take (i := 7) (v := ?_) rfl (by kernel_rfl) (by kernel_rfl) (by kernel_rfl) (fun c a w h => h) (Or.inl ⟨by rfl, ?_⟩) hHeld ?_
              rotate_left
              · (intro w hSw; (try dsimp only at hSw); go_simp; try with_reducible rfl)
              simp only [Act.put, List.setIfInBounds_toArray, List.set_cons_zero, List.set_cons_succ]
              refine wpAnyH_take (i := 8) (v := ?_) rfl (by kernel_rfl) (by kernel_rfl) (by kernel_rfl) (fun c a w h => h) (Or.inl ⟨by rfl, ?_⟩) hHeld ?_
              rotate_left
              · (intro w hSw; (try dsimp only at hSw); go_simp; try with_reducible rfl)
              simp only [Act.put, List.setIfInBounds_toArray, List.set_cons_zero, List.set_cons_succ]
              refine wpAnyH_ready (rs := [10]) (by kernel_rfl) (by simp) ?_
              refine AllReadyH.cons rfl (fun K hK => ?_) AllReadyH.nil
              refine step_store_row rfl 30 (.tmp 12) (.tmp 44) rfl Wd.heap.size #[.int .i64 0, .string { data := #[] }, .int .u16 0, .int .i64 0, .int .i64 0] (by simp [Act.eval]) (by simp [Act.eval]) 30 zc hz2 (by exact sizeT) (by rfl) (by simp [Value.oneCell']) ?_
              refine hK.out _ _ s3 (fun hHeld => ?_)
              clear hK K
              try simp only [Act.put, List.setIfInBounds_toArray, List.set_cons_zero, List.set_cons_succ]
              refine wpAnyH_ready (rs := [11]) (by kernel_rfl) (by simp) ?_
              refine AllReadyH.cons rfl (fun K hK => ?_) AllReadyH.nil
              go_simp
              refine hK.out _ _ s3 (fun hHeld => ?_)
              clear hK K
              try simp only [Act.put, List.setIfInBounds_toArray, List.set_cons_zero, List.set_cons_succ]
              refine wpAnyH_done (by kernel_rfl) ?_ _
              clear hHeld
              try simp only [Act.put, List.setIfInBounds_toArray, List.set_cons_zero, List.set_cons_succ]
              go_wp2_with fail
              go_meet
              case rel => exact ⟨Wd.heap.size, rfl, rfl, setRow_heap w1 Wd.heap.size _ _ _ _ hz2, trB hbd hbr hbd.size⟩
        case rest =>
          skip
          · skip
            obtain ⟨b, rfl, rfl, hbz, hbx⟩ := hcut
            have HR2 := hid (HR.out.below hbx)
            have y0 := below_cell0 hbx _ _ y0
            have y1 := below_cell0 hbx _ _ y1
            have r0 := cell_of_row _ w.heap.size 0 _ _ _ HR2.out.res
            have r1 := cell_of_row _ w.heap.size 1 _ _ _ HR2.out.res
            simp only [List.getElem?_toArray, List.getElem?_cons_zero, List.getElem?_cons_succ] at r0 r1
            have z0 := frozen_of_row _ w.heap.size 0 _ _ HR2.out.res
            have z1 := frozen_of_row _ w.heap.size 1 _ _ HR2.out.res
            clear hbz hbx
            go_wp2_with fail
            go_region
            all_goals
              go_wp2_with fail
              rw [ans_err hs HN.out (by decide), HPL.out]
              exact scanw_end (HR2.out.err _).1 (HR2.out.err _).2 rfl rfl rfl rfl rfl (World.ownsRow_nil _ _ _ _)
      · -- a word
        have hsn : T.seen (s[i]'hlt).toNat = true := by
          rcases wend_seen s.data.toList i hl with ⟨q, _⟩ | ⟨_, q⟩
          · omega
          · rw [hg] at q; exact q
        have hbk := bk_seen _ hsn
        simp only [h1] at hW
        have hwl : (s.extract i j).data.toList = wd s.data.toList i j := ext_list s i j
        rw [h1] at hwe
        have hsz := ext_size s i j hwe
        have e1 := list_no (s.extract i j) 92 (by rw [hwl]; exact h2)
        have e2 := list_no (s.extract i j) 40 (by rw [hwl]; exact h3)
        have hij : i ≤ j := Nat.le_of_lt h0
        have y0 := cell_of_row V wr.heap.size 0 _ _ _ hyV
        have y1 := cell_of_row V wr.heap.size 1 _ _ _ hyV
        simp only [List.getElem?_toArray, List.getElem?_cons_zero, List.getElem?_cons_succ] at y0 y1
        have hT := fun W => rtoken_ok (s.extract i j) (by rw [hsz]; omega) (by rw [hsz]; exact h4) (by rw [hwl]; exact h5) (line, (i : Int) - beg + 1) W
        simp only [pv, pc, tv, tc] at hT
        have HN := hid (HR.out.at_.wo hl h)
        have HTK := hid (show (⟨kd (s.extract i j).data.toList, s.extract i j, numC (s.extract i j).data.toList, (line, (i : Int) - beg + 1)⟩ : Tk) = tk s (i, j) by rw [hwl]; unfold tk; rw [HPL.out])
        generalize kd (s.extract i j).data.toList = kk at *
        generalize numC (s.extract i j).data.toList = vv at *
        obtain ⟨wo, hwo⟩ : ∃ wo, s.extract i j = wo := ⟨_, rfl⟩
        rw [hwo] at HTK e1 e2 hwl hsz
        simp only [hwo] at hT
        clear h h1 h2 h3 h5 hg hl hwl
        go_upto_region 11 with (first | (go_at_call 22; refine (rblank_any s[i].toNat _).mono ?_; rintro e w' ⟨rfl, rfl⟩; rw [hbk]) | (go_at_call 23; refine (let_any s[i].toNat _).mono ?_; rintro e w' ⟨rfl, rfl⟩; rw [hsn]) | (go_at_call 24; refine (hW _).mono ?_; rintro e w' ⟨rfl, rfl⟩))
        go_cut [12, 13] (fun x12 x13 wx => ∃ b, x12 = .pointer (some ⟨b, 0, none⟩) ∧ x13 = .int .i64 0 ∧ wx.heap[b]? = some (.cells (tc kk wo vv (line, ((i : Int) - beg + 1))) 30 (0, 0)) ∧ Below w'.heap.size w' wx)
        case first =>
          as_aux_lemma =>
            have s0 : (fun wz => wz.cell? ⟨wr.heap.size, 0, none⟩ = some (.int .i64 line) ∧ wz.cell? ⟨wr.heap.size, 1, none⟩ = some (.int .i64 ((i : Int) - beg + 1))) w'.drew := ⟨y0, y1⟩
            refine wp_region_held_drew (S := (fun wz => wz.cell? ⟨wr.heap.size, 0, none⟩ = some (.int .i64 line) ∧ wz.cell? ⟨wr.heap.size, 1, none⟩ = some (.int .i64 ((i : Int) - beg + 1)))) (by kernel_rfl) s0 (fun hHeld => ?_)
            have hbd : Below w'.heap.size w' w'.drew := (Below.refl _ _).drew
            generalize hWd : w'.drew = Wd at *
            refine wpAnyH_take (i := 0) (v := ?_) rfl (by kernel_rfl) (by kernel_rfl) (by kernel_rfl) (fun c a w h => h) (Or.inl ⟨by rfl, ?_⟩) hHeld ?_
            rotate_left
            · (intro w hSw; (try dsimp only at hSw); go_simp; try with_reducible rfl)
            simp only [Act.put, List.setIfInBounds_toArray, List.set_cons_zero, List.set_cons_succ]
            refine wpAnyH_take (i := 1) (v := ?_) rfl (by kernel_rfl) (by kernel_rfl) (by kernel_rfl) (fun c a w h => h) (Or.inl ⟨by rfl, ?_⟩) hHeld ?_
            rotate_left
            · (intro w hSw; (try dsimp only at hSw); go_simp; try with_reducible rfl)
            simp only [Act.put, List.setIfInBounds_toArray, List.set_cons_zero, List.set_cons_succ]
            refine wpAnyH_take (i := 2) (v := ?_) rfl (by kernel_rfl) (by kernel_rfl) (by kernel_rfl) (fun c a w h => h) (Or.inl ⟨by rfl, ?_⟩) hHeld ?_
            rotate_left
            · (intro w hSw; (try dsimp only at hSw); go_simp; try with_reducible rfl)
            simp only [Act.put, List.setIfInBounds_toArray, List.set_cons_zero, List.set_cons_succ]
            refine wpAnyH_take (i := 3) (v := ?_) rfl (by kernel_rfl) (by kernel_rfl) (by kernel_rfl) (fun c a w h => h) (Or.inl ⟨by rfl, ?_⟩) hHeld ?_
            rotate_left
            · (intro w hSw; (try dsimp only at hSw); go_simp; try with_reducible rfl)
            simp only [Act.put, List.setIfInBounds_toArray, List.set_cons_zero, List.set_cons_succ]
            refine wpAnyH_take (i := 4) (v := ?_) rfl (by kernel_rfl) (by kernel_rfl) (by kernel_rfl) (fun c a w h => h) (Or.inl ⟨by rfl, ?_⟩) hHeld ?_
            rotate_left
            · (intro w hSw; (try dsimp only at hSw); go_simp; try with_reducible rfl)
            simp only [Act.put, List.setIfInBounds_toArray, List.set_cons_zero, List.set_cons_succ]
            refine wpAnyH_ready (rs := [5, 9]) (by kernel_rfl) (by simp) ?_
            refine AllReadyH.cons rfl (fun K hK => ?_) (AllReadyH.cons rfl (fun K hK => ?_) AllReadyH.nil)
            · go_simp
              refine (hT _).mono ?_
              rintro e w1 ⟨rfl, hb1⟩
              have s1 : (fun wz => wz.cell? ⟨wr.heap.size, 0, none⟩ = some (.int .i64 line) ∧ wz.cell? ⟨wr.heap.size, 1, none⟩ = some (.int .i64 ((i : Int) - beg + 1))) w1 := ⟨below_cell0 hb1 _ _ s0.1, below_cell0 hb1 _ _ s0.2⟩
              refine hK.out _ _ s1 (fun hHeld => ?_)
              clear hK K
              try simp only [Act.put, List.setIfInBounds_toArray, List.set_cons_zero, List.set_cons_succ]
              refine wpAnyH_take (i := 6) (v := ?_) rfl (by kernel_rfl) (by kernel_rfl) (by kernel_rfl) (fun c a w h => h) (Or.inl ⟨by rfl, ?_⟩) hHeld ?_
              rotate_left
              · (intro w hSw; (try dsimp only at hSw); go_simp; try with_reducible rfl)
              simp only [Act.put, List.setIfInBounds_toArray, List.set_cons_zero, List.set_cons_succ]
              refine wpAnyH_take (i := 7) (v := ?_) rfl (by kernel_rfl) (by kernel_rfl) (by kernel_rfl) (fun c a w h => h) (Or.inl ⟨by rfl, ?_⟩) hHeld ?_
              rotate_left
              · (intro w hSw; (try dsimp only at hSw); go_simp; try with_reducible rfl)
              simp only [Act.put, List.setIfInBounds_toArray, List.set_cons_zero, List.set_cons_succ]
              refine wpAnyH_take (i := 8) (v := ?_) rfl (by kernel_rfl) (by kernel_rfl) (by kernel_rfl) (fun c a w h => h) (Or.inl ⟨by rfl, ?_⟩) hHeld ?_
              rotate_left
              · (intro w hSw; (try dsimp only at hSw); go_simp; try with_reducible rfl)
              simp only [Act.put, List.setIfInBounds_toArray, List.set_cons_zero, List.set_cons_succ]
              obtain ⟨U1, hU1⟩ : ∃ U1, w1.alloc (.cells #[.int .i64 0, .string { data := #[] }, .int .u16 0, .int .i64 0, .int .i64 0] 30) = U1 := ⟨_, rfl⟩
              have hz1 : U1.heap[w1.heap.size]? = some (.cells zc 30 (0, 0)) := by rw [← hU1]; exact heap_alloc_new w1 _
              have hbU1 : Below w1.heap.size w1 U1 := by rw [← hU1]; exact bel_alloc w1 _
              have s2 : (fun wz => wz.cell? ⟨wr.heap.size, 0, none⟩ = some (.int .i64 line) ∧ wz.cell? ⟨wr.heap.size, 1, none⟩ = some (.int .i64 ((i : Int) - beg + 1))) U1 := ⟨below_cell0 hbU1 _ _ s1.1, below_cell0 hbU1 _ _ s1.2⟩
              have hbr := Below.setRow hbU1 w1.heap.size (Nat.le_refl _) #[.int .i64 kk, .string wo, .int .u16 vv, .int .i64 line, .int .i64 ((i : Int) - beg + 1)]
              have s3 : (fun wz => wz.cell? ⟨wr.heap.size, 0, none⟩ = some (.int .i64 line) ∧ wz.cell? ⟨wr.heap.size, 1, none⟩ = some (.int .i64 ((i : Int) - beg + 1))) (U1.setRow w1.heap.size #[.int .i64 kk, .string wo, .int .u16 vv, .int .i64 line, .int .i64 ((i : Int) - beg + 1)]) := ⟨below_cell0 hbr _ _ s1.1, below_cell0 hbr _ _ s1.2⟩
              refine wpAnyH_ready (rs := [9]) (by kernel_rfl) (by simp) ?_
              refine AllReadyH.cons rfl (fun K hK => ?_) AllReadyH.nil
              go_simp
              try rw [hU1]
              refine hK.out _ _ s2 (fun hHeld => ?_)
              clear hK K
              try simp only [Act.put, List.setIfInBounds_toArray, List.set_cons_zero, List.set_cons_succ]
              refine wpAnyH_ready (rs := [10]) (by kernel_rfl) (by simp) ?_
              refine AllReadyH.cons rfl (fun K hK => ?_) AllReadyH.nil
              refine step_store_row rfl 30 (.tmp 12) (.tmp 44) rfl w1.heap.size #[.int .i64 kk, .string wo, .int .u16 vv, .int .i64 line, .int .i64 ((i : Int) - beg + 1)] (by simp [Act.eval]) (by simp [Act.eval]) 30 zc hz1 (by exact sizeT) (by rfl) (by simp [Value.oneCell']) ?_
              refine hK.out _ _ s3 (fun hHeld => ?_)
              clear hK K
              try simp only [Act.put, List.setIfInBounds_toArray, List.set_cons_zero, List.set_cons_succ]
              refine wpAnyH_ready (rs := [11]) (by kernel_rfl) (by simp) ?_
              refine AllReadyH.cons rfl (fun K hK => ?_) AllReadyH.nil
              go_simp
              refine hK.out _ _ s3 (fun hHeld => ?_)
              clear hK K
              try simp only [Act.put, List.setIfInBounds_toArray, List.set_cons_zero, List.set_cons_succ]
              refine wpAnyH_done (by kernel_rfl) ?_ _
              clear hHeld
              try simp only [Act.put, List.setIfInBounds_toArray, List.set_cons_zero, List.set_cons_succ]
              go_wp2_with fail
              go_meet
              case rel => exact ⟨w1.heap.size, rfl, rfl, setRow_heap U1 w1.heap.size _ _ _ _ hz1, trB hbd (trB hb1 hbr hb1.size) hbd.size⟩
            · obtain ⟨U1, hU1⟩ : ∃ U1, Wd.alloc (.cells #[.int .i64 0, .string { data := #[] }, .int .u16 0, .int .i64 0, .int .i64 0] 30) = U1 := ⟨_, rfl⟩
              have hz1 : U1.heap[Wd.heap.size]? = some (.cells zc 30 (0, 0)) := by rw [← hU1]; exact heap_alloc_new Wd _
              have hbU1 : Below Wd.heap.size Wd U1 := by rw [← hU1]; exact bel_alloc Wd _
              have s1 : (fun wz => wz.cell? ⟨wr.heap.size, 0, none⟩ = some (.int .i64 line) ∧ wz.cell? ⟨wr.heap.size, 1, none⟩ = some (.int .i64 ((i : Int) - beg + 1))) U1 := ⟨below_cell0 hbU1 _ _ s0.1, below_cell0 hbU1 _ _ s0.2⟩
              go_simp
              try rw [hU1]
              refine hK.out _ _ s1 (fun hHeld => ?_)
              clear hK K
              try simp only [Act.put, List.setIfInBounds_toArray, List.set_cons_zero, List.set_cons_succ]
              refine wpAnyH_ready (rs := [5]) (by kernel_rfl) (by simp) ?_
              refine AllReadyH.cons rfl (fun K hK => ?_) AllReadyH.nil
              go_simp
              refine (hT _).mono ?_
              rintro e w1 ⟨rfl, hb1⟩
              have hz2 : w1.heap[Wd.heap.size]? = some (.cells zc 30 (0, 0)) := (hb1.block _ (lt_of hz1)).trans hz1
              have s2 : (fun wz => wz.cell? ⟨wr.heap.size, 0, none⟩ = some (.int .i64 line) ∧ wz.cell? ⟨wr.heap.size, 1, none⟩ = some (.int .i64 ((i : Int) - beg + 1))) w1 := ⟨below_cell0 hb1 _ _ s1.1, below_cell0 hb1 _ _ s1.2⟩
              have hbr := Below.setRow (trB hbU1 hb1 hbU1.size) Wd.heap.size (Nat.le_refl _) #[.int .i64 kk, .string wo, .int .u16 vv, .int .i64 line, .int .i64 ((i : Int) - beg + 1)]
              have s3 : (fun wz => wz.cell? ⟨wr.heap.size, 0, none⟩ = some (.int .i64 line) ∧ wz.cell? ⟨wr.heap.size, 1, none⟩ = some (.int .i64 ((i : Int) - beg + 1))) (w1.setRow Wd.heap.size #[.int .i64 kk, .string wo, .int .u16 vv, .int .i64 line, .int .i64 ((i : Int) - beg + 1)]) := ⟨below_cell0 hbr _ _ s0.1, below_cell0 hbr _ _ s0.2⟩
              refine hK.out _ _ s2 (fun hHeld => ?_)
              clear hK K
              try simp only [Act.put, List.setIfInBounds_toArray, List.set_cons_zero, List.set_cons_succ]
              refine wpAnyH_take (i := 6) (v := ?_) rfl (by kernel_rfl) (by kernel_rfl) (by kernel_rfl) (fun c a w h => h) (Or.inl ⟨by rfl, ?_⟩) hHeld ?_
              rotate_left
              · (intro w hSw; (try dsimp only at hSw); go_simp; try with_reducible rfl)
              simp only [Act.put, List.setIfInBounds_toArray, List.set_cons_zero, List.set_cons_succ]
              refine wpAnyH_take (i := 7) (v := ?_) rfl (by kernel_rfl) (by kernel_rfl) (by kernel_rfl) (fun c a w h => h) (Or.inl ⟨by rfl, ?_⟩) hHeld ?_
              rotate_left
              · (intro w hSw; (try dsimp only at hSw); go_simp; try with_reducible rfl)
              simp only [Act.put, List.setIfInBounds_toArray, List.set_cons_zero, List.set_cons_succ]
              refine wpAnyH_take (i := 8) (v := ?_) rfl (by kernel_rfl) (by kernel_rfl) (by kernel_rfl) (fun c a w h => h) (Or.inl ⟨by rfl, ?_⟩) hHeld ?_
              rotate_left
              · (intro w hSw; (try dsimp only at hSw); go_simp; try with_reducible rfl)
              simp only [Act.put, List.setIfInBounds_toArray, List.set_cons_zero, List.set_cons_succ]
              refine wpAnyH_ready (rs := [10]) (by kernel_rfl) (by simp) ?_
              refine AllReadyH.cons rfl (fun K hK => ?_) AllReadyH.nil
              refine step_store_row rfl 30 (.tmp 12) (.tmp 44) rfl Wd.heap.size #[.int .i64 kk, .string wo, .int .u16 vv, .int .i64 line, .int .i64 ((i : Int) - beg + 1)] (by simp [Act.eval]) (by simp [Act.eval]) 30 zc hz2 (by exact sizeT) (by rfl) (by simp [Value.oneCell']) ?_
              refine hK.out _ _ s3 (fun hHeld => ?_)
              clear hK K
              try simp only [Act.put, List.setIfInBounds_toArray, List.set_cons_zero, List.set_cons_succ]
              refine wpAnyH_ready (rs := [11]) (by kernel_rfl) (by simp) ?_
              refine AllReadyH.cons rfl (fun K hK => ?_) AllReadyH.nil
              go_simp
              refine hK.out _ _ s3 (fun hHeld => ?_)
              clear hK K
              try simp only [Act.put, List.setIfInBounds_toArray, List.set_cons_zero, List.set_cons_succ]
              refine wpAnyH_done (by kernel_rfl) ?_ _
              clear hHeld
              try simp only [Act.put, List.setIfInBounds_toArray, List.set_cons_zero, List.set_cons_succ]
              go_wp2_with fail
              go_meet
              case rel => exact ⟨Wd.heap.size, rfl, rfl, setRow_heap w1 Wd.heap.size _ _ _ _ hz2, trB hbd hbr hbd.size⟩
        case rest =>
          skip
          · skip
            obtain ⟨b, rfl, rfl, hbz, hbx⟩ := hcut
            have HR2 := hid (HR.out.below hbx)
            have y0 := below_cell0 hbx _ _ y0
            have y1 := below_cell0 hbx _ _ y1
            have c0 := cell_of_row _ b 0 _ _ _ hbz
            have c1 := cell_of_row _ b 1 _ _ _ hbz
            have c2 := cell_of_row _ b 2 _ _ _ hbz
            have c3 := cell_of_row _ b 3 _ _ _ hbz
            have c4 := cell_of_row _ b 4 _ _ _ hbz
            simp only [tc, List.getElem?_toArray, List.getElem?_cons_zero, List.getElem?_cons_succ] at c0 c1 c2 c3 c4
            obtain ⟨W4, hA4⟩ : ∃ W4, wc.alloc (.cells #[.int .i64 kk, .string wo, .int .u16 vv, .int .i64 line, .int .i64 ((i : Int) - beg + 1)] 30) = W4 := ⟨_, rfl⟩
            have hb4 : Below wc.heap.size wc W4 := by rw [← hA4]; exact bel_alloc wc _
            have hcs4 : S.Cs W4 (.slice (some ⟨wc.heap.size, 0, none⟩) 1 1) 5 1 (eT ⟨kk, wo, vv, (line, (i : Int) - beg + 1)⟩) := by
              rw [← hA4]; exact cs_alloc wc (eT ⟨kk, wo, vv, (line, (i : Int) - beg + 1)⟩) 30 5 rfl (by intro v hv; simp [eT, tc] at hv; rcases hv with rfl | rfl | rfl | rfl | rfl <;> rfl)
            have hR4 := HR2.out.below hb4
            have hO4 := hR4.toks
            have hwz4 : w.heap.size + 1 ≤ W4.heap.size := Nat.succ_le_of_lt (lt_of hR4.res)
            have hfew : a.length ≤ i := HR2.out.at_.few
            have hend : ∀ v5 w5, w5.ownsRow (w.heap.size + 1) 30 5 v5 (a.length + 1) (S.en eT (a.map (tk s)) ++ eT ⟨kk, wo, vv, (line, (i : Int) - beg + 1)⟩) → S.Grew W4 w5 u5 v5 → RS s w w5 v5 j (a ++ [(i, j)]) := by
              intro v5 w5 ho hg
              rw [HTK.out] at ho
              refine ⟨HN.out, ?_, ?_, hg.belowAll (fun g e => by have := (hR4.toks.lt g e).1; omega) hR4.bel (Nat.le_refl _)⟩
              · rw [List.length_append, List.map_append, S.en_append]; simpa [S.en] using ho
              · exact (hg.block _ (lt_of hR4.res) (fun e => by have := (hR4.toks.lt _ e.symm).1; omega)).trans hR4.res
            have HE := hid hend
            clear hend hR4 hb4 hbz hbx y0 y1
            go_wp2_with (first | (at_builtin; refine S.wpList_append_row _ rfl (.tmp 50) (.tmp 52) 22 30 (.agg zc) 5 48 Try.underlying22 infoT rfl (by decide) rfl (w.heap.size + 1) u5 a.length (S.en eT (a.map (tk s))) rfl hO4 _ 1 (eT ⟨kk, wo, vv, (line, (i : Int) - beg + 1)⟩) rfl hcs4 (by unfold S.room; omega) (by unfold maxLen; omega) hwz4 ?_))
            intro v5 w5 ho5 hg5
            have HR5 := hid (HE.out v5 w5 ho5 hg5)
            clear HE ho5 hg5 hcs4 hO4
            go_wp2_with fail
            go_meet
            case rel => exact ⟨j, a ++ [(i, j)], rfl, h0, HR5.out⟩
    case rest =>
      obtain ⟨j, a', rfl, hij, hR2⟩ := hcut
      have hj0 : j ≤ s.size := by have := hR2.at_.le; rwa [size_list] at this
      have HR2 := hid hR2
      clear hR2 hyV hbV hzU hU hV
      go_wp2_with fail
      go_loopw [14, 6, 7] (fun xk x6 x7 wq => ∃ (k beg : Nat) (line : Int), xk = .int .i64 (k : Int) ∧ x6 = .int .i64 line ∧ x7 = .int .i64 (beg : Int) ∧ T.At s.data.toList k line beg ∧ k ≤ j ∧ wq = wc) (fun xk _ _ _ => j - (Lib.intOf xk).toNat)
      case atStart => exact ⟨i, beg, line, rfl, rfl, rfl, HT.out, by omega, rfl⟩
      case round =>
        obtain ⟨k, beg2, line2, rfl, rfl, rfl, hT2, hkj, rfl⟩ := hrel
        by_cases hk : k < j
        · have hks : k < s.size := by omega
          have hkl : k < s.data.toList.length := by rw [size_list]; exact hks
          have hp2 := T.place_line_pos s.data.toList beg2
          rw [hT2.pl] at hp2
          have hb2 := hT2.le
          have x0 : 0 ≤ line2 := by simp at hp2; omega
          have x1 : line2 ≤ 65537 := by simp at hp2; omega
          clear hp2
          by_cases h10 : s[k].toNat = 10
          · have HT3 := hid (hT2.line hkl h10)
            have h10' : (s[k].toNat : Int) = 10 := by omega
            clear hT2 h10
            go_wp2_with fail
            go_roundw
            case rel => exact ⟨k + 1, k + 1, line2 + 1, by simp, rfl, by simp, HT3.out, by omega, trivial⟩
            case measure => simp only [Lib.intOf]; omega
          · have HT3 := hid (hT2.step (p2 := k + 1) (Nat.le_succ _) (fun q hq a b => by
              obtain rfl : q = k := by omega
              exact h10))
            have h10' : ¬ (s[k].toNat : Int) = 10 := by omega
            clear hT2 h10
            go_wp2_with fail
            go_roundw
            case rel => exact ⟨k + 1, beg2, line2, by simp, rfl, rfl, HT3.out, by omega, trivial⟩
            case measure => simp only [Lib.intOf]; omega
        · obtain rfl : k = j := by omega
          have HT3 := hid hT2
          clear hT2
          go_wp2_with fail
          go_roundw
          case rel => exact ⟨k, beg2, line2, a', rfl, rfl, rfl, HT3.out, HR2.out⟩
          case measure => simp only [Lib.intOf]; omega
end Go.Proofs.Ytokhlcioekbjdaa.K
