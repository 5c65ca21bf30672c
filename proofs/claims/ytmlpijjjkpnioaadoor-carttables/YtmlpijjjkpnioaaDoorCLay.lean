import Derived.Test.YtmlpijjjkpnioaaDoorCCut
import Derived.Lib.SlBytesConst
/-! lay: the bytes ahead of the sum. -/
namespace Go.Proofs.YtmlpijjjkpnioaaDoor.C
open Go.RowKit
open Go.Proofs
open Go.Proofs.YtmlpijjjkpnioaaDoor.K
set_option linter.unusedVariables false
set_option linter.unusedSimpArgs false
set_option maxHeartbeats 2000000
set_option maxRecDepth 100000
theorem sl_const (W : World) (l : List UInt8) (fr : Nat × Nat) : Sl (W.alloc (.cells (bv l).toArray 5 fr)) (.slice (some ⟨W.heap.size, 0, none⟩) l.length l.length) l := by
  refine .inr ⟨_, _, rfl, Nat.le_refl _, fun j b hj => ?_⟩
  have e : (⟨W.heap.size, 0, none⟩ : Addr).add j = ⟨W.heap.size, j, none⟩ := by rw [Addr.add_lit]; simp
  rw [e, cell_of_any _ _ _ _ _ _ (heap_alloc_any W _)]
  simp [bv, hj]
theorem datB_append : ∀ a b : List Sec, datB (a ++ b) = datB a ++ datB b
  | [], b => rfl
  | x :: a, b => by simp [datB, datB_append a b]
theorem tabB_append : ∀ (a b : List Sec) (n : Nat), tabB n (a ++ b) = tabB n a ++ tabB (n + (datB a).length) b
  | [], b, n => by simp [tabB, datB]
  | x :: a, b, n => by simp [tabB, datB, tabB_append a b, Nat.add_assoc]
theorem datB_take (ls : List Sec) (k : Nat) (h : k < ls.length) : datB (ls.take (k + 1)) = datB (ls.take k) ++ (ls[k]).2.2 := by
  rw [List.take_succ_eq_append_getElem h, datB_append]; simp [datB]
theorem tabB_take (ls : List Sec) (k n : Nat) (h : k < ls.length) : tabB n (ls.take (k + 1)) = tabB n (ls.take k) ++ [(ls[k]).1] ++ [(ls[k]).2.1] ++ low 4 (n + (datB (ls.take k)).length) ++ low 4 (ls[k]).2.2.length := by
  rw [List.take_succ_eq_append_getElem h, tabB_append]; simp [tabB]
theorem datB_le (ls : List Sec) (k : Nat) : (datB (ls.take k)).length ≤ (datB ls).length := by
  conv => rhs; rw [← List.take_append_drop k ls, datB_append]
  simp
theorem lay_any (v : Value) (c : Ct) (ep : Option Addr) (ec : Nat) (bp : Option Addr) (bc : Nat) (kv : Value) (w : World) (h : IsC w v c ep ec bp bc kv) (hm : may c = true) :
    Calls Tryd.prog 30 #[v] w fun e w' => ∃ u, e = .returned u ∧ Row w' w.heap.size u (layB c) ∧ Below w.heap.size w w' := by
  obtain ⟨kp, kc, rfl, _⟩ := h.code.ex
  have hv := h.val
  subst hv
  unfold cv
  have hmb := may_many hm
  have hdz := dat_size hm
  have hsl := secs_len c
  have hen := h.fit.entry
  obtain ⟨wb, hwb⟩ : ∃ wb, wb = w.alloc (.cells #[.slice kp c.code.length kc, .int .u16 (c.entry : Int), .slice ep c.effs.length ec, .slice bp c.banks.length bc] 27) := ⟨_, rfl⟩
  have hBb : Below w.heap.size w wb := by rw [hwb]; exact (Below.refl _ _).alloc (Nat.le_refl _) _
  have hNb : wb.heap[w.heap.size]? = some (.cells [.slice kp c.code.length kc, .int .u16 (c.entry : Int), .slice ep c.effs.length ec, .slice bp c.banks.length bc].toArray 27 (0, 0)) := by rw [hwb]; exact heap_alloc_new w _
  have hcut := cut_any _ c ep ec bp bc _ wb (h.below hBb) hm
  unfold cv at hcut
  have HN := hid hNb
  have HB := hid hBb
  rw [hwb] at hcut
  clear hNb hBb h hm
  go_enter Tryd.func30, Tryd.ntmps30
  go_wp2_with fail
  refine hcut.mono ?_
  rw [← hwb]
  clear hwb hcut
  rintro e w1 ⟨u, prs, rfl, hP, hX⟩
  obtain ⟨sp, sc', hvv, hS⟩ := hX.ses
  have hln : prs.length = (secs c).length := by rw [← hP]; simp
  rw [hP] at hS
  rw [hln] at hvv
  subst hvv
  have hB1 : Below w.heap.size w w1 := HB.out.trans (hX.bel.mono HB.out.size)
  have hN1 := (hX.bel.block w.heap.size (lt_of HN.out)).trans HN.out
  have hll : layB c = magic ++ [by8 (secs c).length] ++ low 2 c.entry ++ tabB (8 + 10 * (secs c).length) (secs c) ++ datB (secs c) := rfl
  have HLL := hid hll
  clear hX hP hln HN HB hll
  generalize secs c = ls at *
  have hn18 : ls.length ≤ 18 := by omega
  obtain ⟨n, hn⟩ : ∃ n, ls.length = n := ⟨_, rfl⟩
  rw [hn] at hn18 HLL ⊢
  have HNN := hid hn.symm
  clear hn hsl hmb
  have hb8 : ((by8 n).toNat : Int) = (n : Int) := by rw [by8_nat]; omega
  have x1 : (n : Int) % 256 = n := by omega
  have hl0 := lw_new w1
  have hz : (w1.alloc (.cells #[.slice none 0 0] 45)).heap.size = w1.heap.size + 1 := by simp
  have hbm : Below (w1.alloc (.cells #[.slice none 0 0] 45)).heap.size (w1.alloc (.cells #[.slice none 0 0] 45)) ((w1.alloc (.cells #[.slice none 0 0] 45)).alloc (.cells #[.int .u8 87, .int .u8 73, .int .u8 83, .int .u8 80, .int .u8 1] 5 (5, 6))) := (Below.refl _ _).alloc (Nat.le_refl _) _
  have hsm : Sl ((w1.alloc (.cells #[.slice none 0 0] 45)).alloc (.cells #[.int .u8 87, .int .u8 73, .int .u8 83, .int .u8 80, .int .u8 1] 5 (5, 6))) (.slice (some ⟨w1.heap.size + 1, 0, none⟩) 5 5) magic := by
    have := sl_const (w1.alloc (.cells #[.slice none 0 0] 45)) magic (5, 6)
    rw [hz] at this
    exact this
  have c1 := lw_bytes (hl0.next hbm) _ magic hsm (by simp [magic, room])
  have HC1 := hid c1
  have HS := hid hS
  have HN1 := hid hN1
  have HB1 := hid hB1
  clear hl0 hbm hsm hS hN1 hB1 c1 hz
  have hcv : (convert 22 22 (.slice (some ⟨w1.heap.size + 1, 0, none⟩) 5 5)).run Tryd.prog ((w1.alloc (.cells #[.slice none 0 0] 45)).alloc (.cells #[.int .u8 87, .int .u8 73, .int .u8 83, .int .u8 80, .int .u8 1] 5)) = .ok (.slice (some ⟨w1.heap.size + 1, 0, none⟩) 5 5) ((w1.alloc (.cells #[.slice none 0 0] 45)).alloc (.cells #[.int .u8 87, .int .u8 73, .int .u8 83, .int .u8 80, .int .u8 1] 5 (5, 6))) := by
    have := Go.Lib.run_convert_bytes_const (P := Tryd.prog) (w1.alloc (.cells #[.slice none 0 0] 45)) 22 5 #[.int .u8 87, .int .u8 73, .int .u8 83, .int .u8 80, .int .u8 1] 5 5 Tryd.underlying22 Tryd.underlying5
    have hz : (w1.alloc (.cells #[.slice none 0 0] 45)).heap.size = w1.heap.size + 1 := by simp
    rw [hz] at this
    exact this
  go_wp2_with fail
  have c1 := HC1.out
  refine c1.mono ?_
  clear c1 HC1 hcv
  rintro e w2 ⟨rfl, v2, hL2, _⟩
  rw [List.nil_append] at hL2
  have c2 := lw_byte hL2 (by8 n) (by simp [magic, room])
  rw [hb8] at c2
  go_wp2_with fail
  refine c2.mono ?_
  clear c2 hL2
  rintro e w3 ⟨rfl, v3, hL3, _⟩
  have k1 := cell_of w3 w.heap.size 1 _ _ _ ((hL3.bel.block _ (lt_of HN1.out)).trans HN1.out) rfl
  have c3 := lw_cell hL3 c.entry hen (by simp [magic, room])
  go_wp2_with fail
  refine c3.mono ?_
  clear c3 hL3 k1
  rintro e w4 ⟨rfl, v4, hL4, _⟩
  have hbd : n * 10 + 8 ≤ 188 := by omega
  have HL4 := hid hL4
  clear hL4
  go_wp2_with fail
  obtain ⟨hd, hhd⟩ : ∃ hd, hd = magic ++ [by8 n] ++ low 2 c.entry := ⟨_, rfl⟩
  have hhl : hd.length = 8 := by rw [hhd]; simp [magic, low_len]
  rw [← hhd] at HLL HL4
  clear hhd hen hb8 x1
  go_loopw [5, 28] (fun a i wr => ∃ (k : Nat) (v : Value), k ≤ n ∧ i = .int .i64 (k : Int) ∧ a = .int .i64 ((8 + 10 * n + (datB (ls.take k)).length : Nat) : Int) ∧ Lw w1 w1.heap.size wr v (hd ++ tabB (8 + 10 * n) (ls.take k))) (fun _ i _ => n - (intOf i).toNat)
  case atStart => exact ⟨0, v4, by omega, rfl, by simp [datB], by simpa [tabB] using HL4.out⟩
  case round =>
    clear HL4
    obtain ⟨k, v, hk, rfl, rfl, hL⟩ := hrel
    have hA := datB_le ls k
    have hTl : (tabB (8 + 10 * n) (ls.take k)).length ≤ 180 := by rw [tabB_len, List.length_take]; omega
    by_cases hlt : k < n
    case neg =>
      obtain rfl : k = n := by omega
      have ht : ls.take k = ls := by rw [HNN.out, List.take_length]
      rw [ht] at hL hTl
      have HL := hid hL
      clear hL hA ht
      go_wp2_with fail
      go_loopw [54] (fun i wr => ∃ (j : Nat) (v : Value), j ≤ k ∧ i = .int .i64 (j : Int) ∧ Lw w1 w1.heap.size wr v (hd ++ tabB (8 + 10 * k) ls ++ datB (ls.take j))) (fun i _ => k - (intOf i).toNat)
      case atStart => exact ⟨0, v, by omega, rfl, by simpa [datB] using HL.out⟩
      case round =>
        clear HL
        obtain ⟨j, v, hj, rfl, hL⟩ := hrel
        have hA := datB_le ls j
        by_cases hjt : j < k
        case neg =>
          obtain rfl : j = k := by omega
          have ht : ls.take j = ls := by rw [HNN.out, List.take_length]
          rw [ht, ← HLL.out] at hL
          have hd' := lw_done hL (by rw [HLL.out]; simp only [List.length_append]; unfold room; omega)
          have HL := hid hL
          clear hL hA ht
          go_wp2_with (first | (go_at_call 19; refine hd'.mono ?_; rintro e w9 ⟨u, rfl, h1, h2⟩))
          go_ret
          exact ⟨_, rfl, h1.mono (Nat.le_trans HB1.out.size HL.out.bel.size), HB1.out.trans ((HL.out.bel.trans (h2.mono HL.out.bel.size)).mono HB1.out.size)⟩
        have i1 : (j : Int) < k := by omega
        have hjl : j < ls.length := by rw [← HNN.out]; exact hjt
        obtain ⟨b, ob, dv, rfl, e1, e2, e3, e4, e5⟩ := HS.out.below hL.bel j ls[j] (List.getElem?_eq_getElem hjl)
        have hdt := datB_take ls j hjl
        have hA2 := datB_le ls (j + 1)
        rw [hdt, List.length_append] at hA2
        generalize ls[j] = t at *
        obtain ⟨tk, tn, td⟩ := t
        simp only at *
        obtain ⟨dp, dc, rfl, _⟩ := e4.ex
        have hbA : Below wr.heap.size wr (wr.alloc (.cells #[.int .u8 (tk.toNat : Int), .int .u8 (tn.toNat : Int), .slice dp td.length dc] 96)) := (Below.refl _ _).alloc (Nat.le_refl _) _
        have cc := lw_bytes (hL.next hbA) _ td (e4.below hbA) (by simp only [List.length_append]; unfold room; omega)
        have HD := hid hdt
        clear hL hbA hdt e4 hA hA2
        go_wp2_with fail
        refine cc.mono ?_
        rintro e w5 ⟨rfl, v5, hL5, _⟩
        rw [List.append_assoc, ← HD.out] at hL5
        have HL5 := hid hL5
        clear hL5 cc HD e1 e2 e3
        go_wp2
        go_roundw
        case rel =>
          first
            | exact ⟨j + 1, v5, by omega, by go_num, HL5.out⟩
            | ((repeat apply Exists.intro); refine ⟨⟨j + 1, v5, by omega, ?_, HL5.out⟩, rfl⟩; go_num)
        case measure => simp [intOf]; omega
    have i1 : (k : Int) < n := by omega
    have hkl : k < ls.length := by rw [← HNN.out]; exact hlt
    obtain ⟨b, ob, dv, rfl, e1, e2, e3, e4, e5⟩ := HS.out.below hL.bel k ls[k] (List.getElem?_eq_getElem hkl)
    have hdt := datB_take ls k hkl
    have htt := tabB_take ls k (8 + 10 * n) hkl
    have hA2 := datB_le ls (k + 1)
    rw [hdt, List.length_append] at hA2
    generalize ls[k] = t at *
    obtain ⟨tk, tn, td⟩ := t
    simp only at *
    obtain ⟨AA, hAA⟩ : ∃ AA, AA = 8 + 10 * n + (datB (ls.take k)).length := ⟨_, rfl⟩
    rw [← hAA] at htt ⊢
    have hAm : AA + td.length < 400000 := by omega
    have hAe : 8 + 10 * n + (datB (ls.take (k + 1))).length = AA + td.length := by rw [hdt, List.length_append, hAA]; omega
    obtain ⟨dp, dc, rfl, _⟩ := e4.ex
    have hbA : Below wr.heap.size wr (wr.alloc (.cells #[.int .u8 (tk.toNat : Int), .int .u8 (tn.toNat : Int), .slice dp td.length dc] 96)) := (Below.refl _ _).alloc (Nat.le_refl _) _
    have hn0 : (wr.alloc (.cells #[.int .u8 (tk.toNat : Int), .int .u8 (tn.toNat : Int), .slice dp td.length dc] 96)).heap[wr.heap.size]? = some (.cells [.int .u8 (tk.toNat : Int), .int .u8 (tn.toNat : Int), .slice dp td.length dc].toArray 96 (0, 0)) := heap_alloc_new wr _
    have hne : wr.heap.size ≠ w1.heap.size := by have := hL.wr.lt; omega
    have hno : some wr.heap.size ≠ v.ownBlock := by intro e; have := (hL.wr.row.lt _ e.symm).2; omega
    have c1 := lw_byte (hL.next hbA) tk (by simp only [List.length_append]; unfold room; omega)
    have y1 : (AA : Int) % 4294967296 = AA := by omega
    have y2 : (td.length : Int) % 4294967296 = td.length := by omega
    have HT := hid htt
    have HE := hid hne
    have H0 := hid hn0
    have HO := hid hno
    have HA := hid hAe
    have HTl := hid hTl
    have HAm := hid hAm
    clear hL hbA hn0 hne hno htt hdt hAe hAA hA hA2 e4 e5 hTl hAm
    go_wp2_with fail
    refine c1.mono ?_
    rintro e w5 ⟨rfl, v5, hL5, s5⟩
    obtain ⟨hn5, ho5⟩ := keep_step s5 H0.out HE.out HO.out
    have k5 := cell_of w5 wr.heap.size 1 _ _ _ hn5 rfl
    have c2 := lw_byte hL5 tn (by have := HTl.out; simp only [List.length_append, List.length_cons, List.length_nil]; unfold room; omega)
    have H5 := hid hn5
    have HO5 := hid ho5
    clear hn5 ho5 s5 hL5 c1 H0 HO e1 e2 e3
    go_wp2_with fail
    refine c2.mono ?_
    rintro e w6 ⟨rfl, v6, hL6, s6⟩
    obtain ⟨hn6, ho6⟩ := keep_step s6 H5.out HE.out HO5.out
    have c3 := lw_word hL6 AA (by have := HAm.out; omega) (by have := HTl.out; simp only [List.length_append, List.length_cons, List.length_nil]; unfold room; omega)
    have H6 := hid hn6
    have HO6 := hid ho6
    clear hn6 ho6 s6 hL6 c2 H5 HO5 k5
    go_wp2_with fail
    refine c3.mono ?_
    rintro e w7 ⟨rfl, v7, hL7, s7⟩
    obtain ⟨hn7, ho7⟩ := keep_step s7 H6.out HE.out HO6.out
    have k7 := cell_of w7 wr.heap.size 2 _ _ _ hn7 rfl
    have c4 := lw_word hL7 td.length (by have := HAm.out; omega) (by have := HTl.out; simp only [List.length_append, List.length_cons, List.length_nil, low_len]; unfold room; omega)
    have H7 := hid hn7
    have HO7 := hid ho7
    clear hn7 ho7 s7 hL7 c3 H6 HO6
    go_wp2_with fail
    refine c4.mono ?_
    rintro e w8 ⟨rfl, v8, hL8, s8⟩
    obtain ⟨hn8, ho8⟩ := keep_step s8 H7.out HE.out HO7.out
    have k8 := cell_of w8 wr.heap.size 2 _ _ _ hn8 rfl
    have hcat : hd ++ tabB (8 + 10 * n) (ls.take k) ++ [tk] ++ [tn] ++ low 4 AA ++ low 4 td.length = hd ++ tabB (8 + 10 * n) (ls.take (k + 1)) := by rw [HT.out]; simp only [List.append_assoc]
    rw [hcat] at hL8
    have HL8 := hid hL8
    have z1 : wrap64 ((AA : Int) + (td.length : Int)) = ((AA + td.length : Nat) : Int) := by have := HAm.out; unfold wrap64; simp [IntKind.wrap, IntKind.bits, IntKind.signed]; omega
    clear hn8 ho8 s8 hL8 c4 H7 HO7 k7 hcat HT
    go_wp2
    go_roundw
    case rel =>
      first
        | exact ⟨k + 1, v8, by omega, by go_num, by rw [HA.out]; have := HAm.out; go_num, HL8.out⟩
        | ((repeat apply Exists.intro); refine ⟨⟨k + 1, v8, by omega, ?_, ?_, HL8.out⟩, rfl⟩; go_num; (rw [HA.out]; have := HAm.out; go_num))
    case measure => simp [intOf]; omega
end Go.Proofs.YtmlpijjjkpnioaaDoor.C
