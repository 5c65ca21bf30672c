import Derived.Test.YtcmaccefjlgbfaaImageKit
/-! whole, Restore. -/
namespace Go.Proofs.Ytcmaccefjlgbfaa
open Go.RowKit
open Go.Proofs
set_option linter.unusedVariables false
set_option linter.unusedSimpArgs false
def allF (bs : List (Int × List UInt8)) : Bool := bs.all fun t => t.2.length == 16384
def whB (bs : List (Int × List UInt8)) (ram scr : List UInt8) (ch : Int) : Bool := allF bs && (ram.length == 16384) && (scr.length == 3072) && decide (ch < 16)
theorem allF_at (bs : List (Int × List UInt8)) (k : Nat) (hk : k < bs.length) (h : (bs[k]).2.length ≠ 16384) : allF bs = false := by
  rw [Bool.eq_false_iff]; intro c
  rw [allF, List.all_eq_true] at c
  exact h (by simpa using c _ (List.getElem_mem hk))
theorem allF_all (bs : List (Int × List UInt8)) (h : ∀ (j : Nat) t, bs[j]? = some t → t.2.length = 16384) : allF bs = true := by
  rw [allF, List.all_eq_true]
  intro t ht
  obtain ⟨j, hj, e⟩ := List.mem_iff_getElem.1 ht
  simpa using h j t (by rw [List.getElem?_eq_getElem hj, e])
set_option maxHeartbeats 2000000
set_option maxRecDepth 100000
theorem whole_any (p : Option Addr) (c : Nat) (bs : List (Int × List UInt8)) (hl : bs.length ≤ room) (rp sp : Option Addr) (rn rc sn sc' : Nat) (m : MS) (w : World) (h : BnS w p bs) (ram scr : List UInt8) (hrn : rn = ram.length) (hsn : sn = scr.length) :
    Calls Try.prog 47 #[.agg (imgC (.slice p bs.length c) (.slice rp rn rc) (.slice sp sn sc') m).toArray] w fun e w' => e = .returned (.bool (whB bs ram scr m.ch)) ∧ Below w.heap.size w w' := by
  unfold room at hl
  subst hrn hsn
  obtain ⟨w1, hw1⟩ : ∃ w1, w1 = w.alloc (.cells (imgC (.slice p bs.length c) (.slice rp ram.length rc) (.slice sp scr.length sc') m).toArray 48) := ⟨_, rfl⟩
  have hB1 : Below w.heap.size w w1 := by rw [hw1]; exact (Below.refl _ w).alloc (Nat.le_refl _) _
  have hx : w1.heap[w.heap.size]? = some (.cells (imgC (.slice p bs.length c) (.slice rp ram.length rc) (.slice sp scr.length sc') m).toArray 48 (0, 0)) := by rw [hw1]; exact heap_alloc_new w _
  have hz : w1.heap.size = w.heap.size + 1 := by rw [hw1]; simp
  have c0 := cell_of w1 _ 0 _ 48 _ hx rfl
  have HB1 : Hid _ := hB1
  have HX : Hid _ := hx
  have HZ : Hid _ := hz
  clear hB1 hx hz
  unfold imgC at hw1 ⊢
  go_enter Try.func47, Try.ntmps47
  go_wp2_with fail
  rw [← hw1]
  clear hw1
  go_wp2
  go_loopw [8] (fun i wr => ∃ k : Nat, k ≤ bs.length ∧ i = .int .i64 (k : Int) ∧ (∀ (j : Nat) t, j < k → bs[j]? = some t → t.2.length = 16384) ∧ Below w1.heap.size w1 wr) (fun i _ => bs.length - (intOf i).toNat)
  case atStart => exact ⟨0, by omega, rfl, fun j t hj => by omega, Below.refl _ _⟩
  case round =>
    obtain ⟨k, hk, rfl, hA, hB⟩ := hrel
    have hBw : Below w.heap.size w wr := HB1.out.trans (hB.mono HB1.out.size)
    by_cases hlt : k < bs.length
    · have i1 : (k : Int) < bs.length := by omega
      obtain ⟨b, o, dv, rfl, e1, e2, e3, e4⟩ := h.below hBw k bs[k] (List.getElem?_eq_getElem hlt)
      obtain ⟨dp, dc, rfl, _⟩ := e3.ex
      unfold room at e4
      have hAf := allF_at bs k hlt
      have hA2 : (bs[k]).2.length = 16384 → ∀ (j : Nat) t, j < k + 1 → bs[j]? = some t → t.2.length = 16384 := by
        intro c j t hj ht
        by_cases e : j = k
        · subst e; rw [List.getElem?_eq_getElem hlt] at ht; cases ht; exact c
        · exact hA j t (by omega) ht
      have hB2 : Below w1.heap.size w1 (wr.alloc (Obj.cells #[.int .i64 (bs[k]).1, .slice dp (bs[k]).2.length dc] 37)) := hB.alloc hB.size _
      have hB3 : Below w.heap.size w (wr.alloc (Obj.cells #[.int .i64 (bs[k]).1, .slice dp (bs[k]).2.length dc] 37)) := hBw.alloc hBw.size _
      clear e3 hA hB hBw
      generalize hn : (bs[k]).1 = n at *
      generalize hL : (bs[k]).2.length = L at *
      have HA : Hid _ := hA2
      have HB : Hid _ := hB2
      have HB3 : Hid _ := hB3
      have HF : Hid _ := hAf
      clear hA2 hB2 hB3 hAf hL hn
      by_cases c1 : L = 16384
      · have d1 : ((L : Int) != 16384) = false := by simp; omega
        have HA3 : Hid _ := HA.out c1
        clear c1 HA HF
        go_wp2
        go_roundw
        case rel =>
          first
            | exact ⟨k + 1, by omega, by go_num, HA3.out, HB.out⟩
            | ((repeat apply Exists.intro); refine ⟨⟨k + 1, by omega, ?_, HA3.out, HB.out⟩, rfl⟩; go_num)
        case measure => simp [intOf]; omega
      · have d1 : ((L : Int) != 16384) = true := by simp; omega
        have f1 : whB bs ram scr m.ch = false := by simp [whB, HF.out c1]
        clear c1 HA HF
        go_wp2
        go_ret
        exact ⟨by rw [f1]; rfl, HB3.out⟩
    · obtain rfl : k = bs.length := by omega
      have hAf := allF_all bs (fun j t ht => hA j t (List.getElem?_eq_some_iff.1 ht).1 ht)
      have hx2 : wr.heap[w.heap.size]? = _ := (hB.block _ (by rw [HZ.out]; omega)).trans HX.out
      have k1 := cell_of wr _ 1 _ 48 _ hx2 rfl
      have k2 := cell_of wr _ 2 _ 48 _ hx2 rfl
      have k3 := cell_of wr _ 3 _ 48 _ hx2 rfl
      have HBw : Hid _ := hBw
      clear hx2 hA hB hBw
      have hw' : whB bs ram scr m.ch = ((ram.length == 16384) && (scr.length == 3072) && decide (m.ch < 16)) := by simp [whB, hAf]
      have HW : Hid _ := hw'
      clear hAf hw'
      by_cases q1 : ram.length = 16384
      · by_cases q2 : scr.length = 3072
        · by_cases q3 : m.ch < 16
          · have d1 : ((ram.length : Int) == 16384) = true := by simp; omega
            have d2 : ((scr.length : Int) == 3072) = true := by simp; omega
            have d3 : decide (m.ch < 16) = true := by simpa using q3
            have d4 : (ram.length == 16384) = true := by simpa using q1
            have d5 : (scr.length == 3072) = true := by simpa using q2
            clear q1 q2 q3
            go_wp2
            go_ret
            (refine ⟨congrArg Ending.returned (congrArg Value.bool ?_), HBw.out⟩; rw [HW.out]; simp [d3, d4, d5])
          · have d1 : ((ram.length : Int) == 16384) = true := by simp; omega
            have d2 : ((scr.length : Int) == 3072) = true := by simp; omega
            have d3 : decide (m.ch < 16) = false := by simpa using q3
            clear q1 q2 q3
            go_wp2
            go_ret
            (refine ⟨congrArg Ending.returned (congrArg Value.bool ?_), HBw.out⟩; rw [HW.out]; simp [d3])
        · have d1 : ((ram.length : Int) == 16384) = true := by simp; omega
          have d2 : ((scr.length : Int) == 3072) = false := by simp; omega
          have d5 : (scr.length == 3072) = false := by simpa using q2
          clear q1 q2
          go_wp2
          go_ret
          (refine ⟨congrArg Ending.returned (congrArg Value.bool ?_), HBw.out⟩; rw [HW.out]; simp [d5])
      · have d1 : ((ram.length : Int) == 16384) = false := by simp; omega
        have d4 : (ram.length == 16384) = false := by simpa using q1
        clear q1
        go_wp2
        go_ret
        (refine ⟨congrArg Ending.returned (congrArg Value.bool ?_), HBw.out⟩; rw [HW.out]; simp [d4])
end Go.Proofs.Ytcmaccefjlgbfaa
/-! Restore. -/
namespace Go.Proofs.Ytcmaccefjlgbfaa
open Go.RowKit
open Go.Proofs
set_option linter.unusedVariables false
set_option linter.unusedSimpArgs false
/-- A memory whose own block is another, and nothing else. -/
theorem MemP.reblk {W W' : World} {F : Nat → Prop} {b : Nat} {m : MS} {mb : Nat} {L : List (Nat × Nat)} {tv : Value} (h : MemP W F b m mb L tv) (m' : MS) (wf : Wf m') (hb : W'.heap[b]? = some (.cells (mcells mb m' tv).toArray 86 (0, 0)))
    (k : ∀ i, i ≠ b → W'.heap[i]? = W.heap[i]?) (e3 : m'.banks = m.banks) (e4 : m'.tones = m.tones) : MemP W' F b m' mb L tv :=
  { wf := wf
    blk := hb
    map := (k _ h.ne_map).trans h.map
    keys := h.keys
    lt16 := h.lt16
    blks := h.blks
    bks := fun p hp => by obtain ⟨l, e1, e2⟩ := h.bks p hp; exact ⟨l, by rw [e3]; exact e1, (k _ (h.ne_bk p hp)).trans e2⟩
    all := fun n l hn => h.all n l (by rw [← e3]; exact hn)
    tones := by rw [e4]; exact own_kept h.tones fun g e _ => k _ (h.ne_t g e)
    fb := h.fb
    fmb := h.fmb
    fbk := h.fbk
    ft := h.ft }
theorem info5s : (Try.prog.info? 5).map (·.size) = some 1 := by kernel_rfl
theorem copy_part (W : World) (b o n : Nat) (v : Value) (l : List UInt8) (c : List Value) (hb : W.heap[b]? = some (.cells c.toArray 86 (0, 0))) (hs : Sl W v l) (hl : l.length = n) (hn : 0 < n) (hc : o + n ≤ c.length) :
    ∃ W', (Builtin.copy_ #[35, 35] 3 #[.slice (some ⟨b, o, none⟩) n n, v]).run Try.prog W = .ok (.int .i64 (n : Int)) W' ∧ W'.heap[b]? = some (.cells (c.take o ++ bv l ++ c.drop (o + n)).toArray 86 (0, 0)) ∧ (∀ k, k ≠ b → W'.heap[k]? = W.heap[k]?) ∧ W'.heap.size = W.heap.size ∧ W'.os = W.os ∧ W'.tape = W.tape ∧ W'.output = W.output := by
  rcases hs with ⟨rfl, rfl⟩ | ⟨x, cc, rfl, hcc, hcell⟩
  · simp at hl; omega
  · have hr := run_copy_row (P := Try.prog) W 35 35 3 5 b o n n x l.length cc c.toArray 86 (bv l) Try.underlying35 info5s hb (by rw [bv_len, hl]; exact (Nat.min_self n).symm)
      (fun j u hj => by obtain ⟨y, hy, rfl⟩ := (bv_get l j u).1 hj; exact hcell j y hy) (by rw [bv_len, hl, List.size_toArray]; exact hc) (bv_one l)
    rw [bv_len, hl] at hr
    rw [hl]
    exact ⟨_, hr, setRow_eq W b c 86 _ hb, fun k hk => setRow_other W b k _ hk, size_setRow _ _ _, rfl, rfl, rfl⟩
theorem mcells_ram_new (mb : Nat) (m : MS) (tv : Value) (h : Wf m) (l : List UInt8) : (mcells mb m tv).take 1 ++ bv l ++ (mcells mb m tv).drop (1 + 16384) = mcells mb { m with ram := l } tv := by
  have e : (mcells mb m tv).drop (1 + 16384) = bv m.scr ++ regs m tv := by
    rw [mcells, Nat.add_comm, List.drop_succ_cons, List.drop_append_of_le_length (by rw [bv_len, h.ram]; omega), List.drop_of_length_le (by rw [bv_len, h.ram]; omega), List.nil_append]
  rw [e]; rfl
theorem mcells_scr_new (mb : Nat) (m : MS) (tv : Value) (h : Wf m) (l : List UInt8) : (mcells mb m tv).take 16385 ++ bv l ++ (mcells mb m tv).drop (16385 + 3072) = mcells mb { m with scr := l } tv := by
  have e1 : (mcells mb m tv).take 16385 = Value.map (some mb) :: bv m.ram := by
    rw [mcells, List.take_succ_cons, List.take_append_of_le_length (by rw [bv_len, h.ram]; omega), List.take_of_length_le (by rw [bv_len, h.ram]; omega)]
  have e2 : (mcells mb m tv).drop (16385 + 3072) = regs m tv := by
    rw [mcells, show 16385 + 3072 = (16384 + 3072) + 1 by omega, List.drop_succ_cons, List.drop_append, bv_len, h.ram, List.drop_of_length_le (by rw [bv_len, h.ram]; omega), List.nil_append, show 16384 + 3072 - 16384 = 3072 by omega,
      List.drop_append, bv_len, h.scr, List.drop_of_length_le (by rw [bv_len, h.scr]; omega), List.nil_append]
    rfl
  rw [e1, e2]; simp [mcells, regs]
/-- The memory that Restore makes. -/
def mR (bs : List (Int × List UInt8)) (ram scr : List UInt8) (m : MS) : MS := { ram := ram, scr := scr, ch := m.ch, pad := m.pad, pitch := m.pitch, vol := m.vol, time := m.time, cyc := 0, tones := [], banks := nbk bs }
end Go.Proofs.Ytcmaccefjlgbfaa
