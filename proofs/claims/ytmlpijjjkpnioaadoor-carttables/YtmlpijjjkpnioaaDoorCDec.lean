import Derived.Test.YtmlpijjjkpnioaaDoorCSecs
/-! 7.3: Decode. -/
namespace Go.Proofs.YtmlpijjjkpnioaaDoor.C
open Go.RowKit
open Go.Proofs
open Go.Proofs.YtmlpijjjkpnioaaDoor.K
set_option linter.unusedVariables false
set_option linter.unusedSimpArgs false
set_option maxHeartbeats 1000000
set_option maxRecDepth 100000
/-- What Decode answers. -/
def DecO (w w' : World) (l : List UInt8) (e : Ending) : Prop :=
  ∃ v, e = .returned (.tuple #[v, .int .i64 ((decB l).1 : Int)]) ∧ ∃ kv ev bv prs, OwC w' w.heap.size v (decB l).2 kv ev bv prs
theorem dec_res (w W : World) (T : Array Value) (ht2 : T.getD 2 undef = .pointer (some ⟨w.heap.size, 0, none⟩)) (x : Value) (ht3 : T.getD 3 undef = x) (v0 v1 v2 v3 : Value)
    (h0 : W.heap[w.heap.size]? = some (.cells [v0, v1, v2, v3].toArray 27 (0, 0))) :
    (results Tryd.f10 T).run Tryd.prog W = .ok (.tuple #[.agg #[v0, v1, v2, v3], x]) W := by
  have c0 := cell_of W w.heap.size 0 [v0, v1, v2, v3] _ _ h0 rfl
  have c1 := cell_of W w.heap.size 1 [v0, v1, v2, v3] _ _ h0 rfl
  have c2 := cell_of W w.heap.size 2 [v0, v1, v2, v3] _ _ h0 rfl
  have c3 := cell_of W w.heap.size 3 [v0, v1, v2, v3] _ _ h0 rfl
  have t2 : T[2]?.getD undef = .pointer (some ⟨w.heap.size, 0, none⟩) := by rw [← Array.getD_eq_getD_getElem?]; exact ht2
  have t3 : T[3]?.getD undef = x := by rw [← Array.getD_eq_getD_getElem?]; exact ht3
  simp [results, Tryd.results10, go_sem, t2, t3, c0, c1, c2, c3]
/-- The end of Decode with an error. -/
theorem dec_err_end (w W : World) (l : List UInt8) (T : Array Value) (ht2 : T.getD 2 undef = .pointer (some ⟨w.heap.size, 0, none⟩)) (k : Nat) (ht3 : T.getD 3 undef = .int .i64 (k : Int))
    (h0 : W.heap[w.heap.size]? = some (.cells [.slice none 0 0, .int .u16 0, .slice none 0 0, .slice none 0 0].toArray 27 (0, 0))) (hB : Below w.heap.size w W) (hd : decB l = (k, ct0)) :
    bodyPost Tryd.prog Tryd.f10 (fun e w' => DecO w w' l e ∧ Below w.heap.size w w') Exit.ret { tmps := T, defers := [] } W := by
  refine bodyPost_ret (dec_res w W T ht2 _ ht3 _ _ _ _ h0) rfl ⟨⟨_, by rw [hd], ?_⟩, hB⟩
  rw [hd]
  exact ⟨_, _, _, _, OwC.zero W w.heap.size⟩
theorem OwC.mono {W : World} {B B' : Nat} {v : Value} {c : Ct} {kv ev bv : Value} {prs : List (Bk × Value)} (h : OwC W B v c kv ev bv prs) (hb : B' ≤ B) : OwC W B' v c kv ev bv prs :=
  ⟨h.val, h.code.mono hb, own_mono h.effs hb, own_mono h.banks hb, h.map, fun x hx => (h.dat x hx).mono hb, h.nd⟩
theorem drop_take_get (l : List UInt8) (h : 8 ≤ l.length) : (((l.drop 5).take 3).getD 0 0).toNat = many l ∧ numL ((((l.drop 5).take 3).drop 1).take 2) = entryOf l := by
  constructor
  · unfold many
    rw [List.getD_eq_getElem?_getD, List.getElem?_take, if_pos (by omega), List.getElem?_drop, List.getD_eq_getElem?_getD]
  · unfold entryOf
    rw [List.drop_take, List.take_take, List.drop_drop]
    rfl
theorem decode_any (v : Value) (l : List UInt8) (hl : l.length ≤ room) (w : World) (h : Sl w v l) (hT : Tab w) :
    Calls Tryd.prog 10 #[v] w fun e w' => DecO w w' l e ∧ Below w.heap.size w w' := by
  have hs := h
  obtain ⟨p, c, rfl, _⟩ := h.ex
  have hlc : l.length ≤ c := by
    rcases hs with ⟨e, rfl⟩ | ⟨_, _, e, hc, _⟩
    · cases e; simp
    · cases e; exact hc
  obtain ⟨W1, hW1⟩ : ∃ W1, W1 = (w.alloc (.cells #[.slice none 0 0, .int .u16 0, .slice none 0 0, .slice none 0 0] 27)).alloc (.cells #[.int .u8 87, .int .u8 73, .int .u8 83, .int .u8 80, .int .u8 1] 5 (5, 6)) := ⟨_, rfl⟩
  have hz : (w.alloc (.cells #[.slice none 0 0, .int .u16 0, .slice none 0 0, .slice none 0 0] 27)).heap.size = w.heap.size + 1 := by simp
  have hcv : (convert 22 22 (.slice (some ⟨w.heap.size + 1, 0, none⟩) 5 5)).run Tryd.prog ((w.alloc (.cells #[.slice none 0 0, .int .u16 0, .slice none 0 0, .slice none 0 0] 27)).alloc (.cells #[.int .u8 87, .int .u8 73, .int .u8 83, .int .u8 80, .int .u8 1] 5)) = .ok (.slice (some ⟨w.heap.size + 1, 0, none⟩) 5 5) ((w.alloc (.cells #[.slice none 0 0, .int .u16 0, .slice none 0 0, .slice none 0 0] 27)).alloc (.cells #[.int .u8 87, .int .u8 73, .int .u8 83, .int .u8 80, .int .u8 1] 5 (5, 6))) := by
    have := Go.Lib.run_convert_bytes_const (P := Tryd.prog) (w.alloc (.cells #[.slice none 0 0, .int .u16 0, .slice none 0 0, .slice none 0 0] 27)) 22 5 #[.int .u8 87, .int .u8 73, .int .u8 83, .int .u8 80, .int .u8 1] 5 5 Tryd.underlying22 Tryd.underlying5
    rw [hz] at this
    exact this
  have hsm : Sl W1 (.slice (some ⟨w.heap.size + 1, 0, none⟩) 5 5) magic := by
    have := sl_const (w.alloc (.cells #[.slice none 0 0, .int .u16 0, .slice none 0 0, .slice none 0 0] 27)) magic (5, 6)
    rw [hz] at this
    rw [hW1]
    exact this
  have hB1 : Below w.heap.size w W1 := by rw [hW1]; exact ((Below.refl _ _).alloc (Nat.le_refl _) _).alloc (by simp) _
  have hN1 : W1.heap[w.heap.size]? = some (.cells [.slice none 0 0, .int .u16 0, .slice none 0 0, .slice none 0 0].toArray 27 (0, 0)) := by
    rw [hW1, Below.heap_alloc _ _ _ (by simp)]; exact heap_alloc_new w _
  have hpf := prefix_any _ _ l magic hl (by simp [magic, room]) W1 (hs.below hB1) hsm
  have hsf := sumFits_any _ l hl W1 (hs.below hB1) (hT.below hB1 hT.pos)
  have HB1 := hid hB1
  have HN1 := hid hN1
  have HS := hid hs
  have HT := hid hT
  -- the cells of the result, in whatever later world
  have hcl : ∀ W : World, W.heap[w.heap.size]? = some (.cells [.slice none 0 0, .int .u16 0, .slice none 0 0, .slice none 0 0].toArray 27 (0, 0)) → (W.cell? ⟨w.heap.size, 0, none⟩ = some (.slice none 0 0) ∧ W.cell? ⟨w.heap.size, 1, none⟩ = some (.int .u16 0) ∧ W.cell? ⟨w.heap.size, 2, none⟩ = some (.slice none 0 0) ∧ W.cell? ⟨w.heap.size, 3, none⟩ = some (.slice none 0 0)) ∧ (W.frozen? ⟨w.heap.size, 0, none⟩ = false ∧ W.frozen? ⟨w.heap.size, 1, none⟩ = false ∧ W.frozen? ⟨w.heap.size, 2, none⟩ = false ∧ W.frozen? ⟨w.heap.size, 3, none⟩ = false) ∧ (W.setCell ⟨w.heap.size, 0, none⟩ (.slice none 0 0) = W ∧ W.setCell ⟨w.heap.size, 1, none⟩ (.int .u16 0) = W ∧ W.setCell ⟨w.heap.size, 2, none⟩ (.slice none 0 0) = W ∧ W.setCell ⟨w.heap.size, 3, none⟩ (.slice none 0 0) = W) := fun W hW =>
    ⟨⟨cell_of _ _ 0 _ _ _ hW rfl, cell_of _ _ 1 _ _ _ hW rfl, cell_of _ _ 2 _ _ _ hW rfl, cell_of _ _ 3 _ _ _ hW rfl⟩, ⟨frozen_of _ _ _ _ _ hW, frozen_of _ _ _ _ _ hW, frozen_of _ _ _ _ _ hW, frozen_of _ _ _ _ _ hW⟩, ⟨set_same _ _ 0 _ _ _ hW rfl, set_same _ _ 1 _ _ _ hW rfl, set_same _ _ 2 _ _ _ hW rfl, set_same _ _ 3 _ _ _ hW rfl⟩⟩
  have HCL := hid hcl
  clear hcl hs h hT hsm hz
  by_cases h5 : l.take 5 = magic
  case neg =>
    have hd : decB l = (70, ct0) := by unfold decB; rw [if_pos h5]
    have hpf' : decide (l.take magic.length = magic) = false := by simpa [magic] using h5
    rw [hpf'] at hpf
    obtain ⟨⟨k0, k1, k2, k3⟩, ⟨f0, f1, f2, f3⟩, ⟨z0, z1, z2, z3⟩⟩ := HCL.out W1 HN1.out
    rw [hW1] at hpf
    go_enter Tryd.func10, Tryd.ntmps10
    go_wp2_with fail
    refine hpf.mono ?_
    rw [← hW1]
    rintro e w2 ⟨rfl, hw2⟩
    obtain rfl := hw2.symm
    clear hW1 hcv hpf hsf
    go_wp2_with fail
    exact dec_err_end w W1 l _ rfl 70 rfl HN1.out HB1.out hd
  have hpf' : decide (l.take magic.length = magic) = true := by simpa [magic] using h5
  rw [hpf'] at hpf
  by_cases h7 : sumOk l = true
  case neg =>
    have h7 : sumOk l = false := by simpa using h7
    have hd : decB l = (71, ct0) := by unfold decB; rw [if_neg (by simpa using h5), if_pos h7]
    rw [h7] at hsf
    rw [hW1] at hpf
    go_enter Tryd.func10, Tryd.ntmps10
    go_wp2_with fail
    refine hpf.mono ?_
    rw [← hW1]
    rintro e w2 ⟨rfl, hw2⟩
    obtain rfl := hw2.symm
    clear hW1 hcv hpf
    go_wp2_with fail
    refine hsf.mono ?_
    rintro e w3 ⟨rfl, hb3⟩
    have hN3 := (hb3.block _ (lt_of HN1.out)).trans HN1.out
    obtain ⟨⟨k0, k1, k2, k3⟩, ⟨f0, f1, f2, f3⟩, ⟨z0, z1, z2, z3⟩⟩ := HCL.out w3 hN3
    have HN3 := hid hN3
    have HB3 := hid (HB1.out.trans (hb3.mono HB1.out.size))
    clear hN3 hb3 hsf
    go_wp2_with fail
    exact dec_err_end w w3 l _ rfl 71 rfl HN3.out HB3.out hd
  have h7' := h7
  simp only [sumOk, decide_eq_true_eq] at h7'
  obtain ⟨hl12, hlM, _⟩ := h7'
  rw [h7] at hsf
  rw [hW1] at hpf
  obtain ⟨hmn, hety⟩ := drop_take_get l (by omega)
  have hm255 : many l ≤ 255 := by unfold many; have := u8lt (l.getD 5 0); omega
  have hety2 : entryOf l < 65536 := by
    have := numL_lt ((l.drop 6).take 2)
    have h2 : 2 ^ (8 * ((l.drop 6).take 2).length) ≤ 2 ^ 16 := Nat.pow_le_pow_right (by decide) (by simp; omega)
    unfold entryOf; omega
  have hdec : decB l = (match table (body l) (many l) with | none => (72, ct0) | some ls => if secsOk ls then (0, cartOf (entryOf l) ls) else (73, ct0)) := by
    unfold decB; rw [if_neg (by simpa using h5), if_neg (by rw [h7]; simp)]; rfl
  have s5 := fun W => slice_lh W p l.length c 5 8 5 8 rfl rfl (by omega) (by omega)
  rw [show 8 - 5 = 3 by omega] at s5
  have hs5 := (HS.out.drop 5 (by omega)).take 3 (by simp; omega)
  obtain ⟨eb, heb⟩ : ∃ eb, eb = l.length - 4 := ⟨_, rfl⟩
  have s4 := fun W => slice_to W p l.length c eb (eb : Int) rfl (by omega)
  have hsb := HS.out.take eb (by omega)
  have hbod : body l = l.take eb := by unfold body; rw [heb]
  have hebl : (l.take eb).length = eb := by simp; omega
  rw [← hbod] at hsb hebl
  have hw4 : IntKind.i64.wrap ((l.length : Int) - 4) = (eb : Int) := by rw [show (l.length : Int) - 4 = (eb : Int) by omega]; simp [IntKind.wrap, IntKind.bits, IntKind.signed]; omega
  have HW4 := hid hw4
  have hebM : eb ≤ 524284 := by omega
  clear hw4
  have i4 : (eb : Int) ≤ c := by omega
  have HDEC := hid hdec
  have HMN := hid hmn
  have HET := hid hety
  have HSB := hid hsb
  have HEBL := hid hebl
  have hx3 : ((l.drop 5).take 3).length = 3 := by simp; omega
  generalize (l.drop 5).take 3 = x3 at *
  generalize (if c = 5 then p else p.map (·.add 5)) = P5 at *
  have HS5 := hid hs5
  have HX3 := hid hx3
  clear hdec hmn hety hsb hs5 hx3 heb hbod h5 h7 hebl hpf'
  generalize many l = mm at *
  generalize entryOf l = en at *
  go_enter Tryd.func10, Tryd.ntmps10
  go_wp2_with fail
  refine hpf.mono ?_
  rw [← hW1]
  rintro e w2 ⟨rfl, hw2⟩
  obtain rfl := hw2.symm
  clear hW1 hcv hpf
  go_wp2_with fail
  refine hsf.mono ?_
  rintro e w3 ⟨rfl, hb3⟩
  have hN3 := (hb3.block _ (lt_of HN1.out)).trans HN1.out
  have hB3 := HB1.out.trans (hb3.mono HB1.out.size)
  have hnr := newreader_any _ x3 (by rw [HX3.out]; unfold room; omega) w3 (HS5.out.below hB3)
  have HN3 := hid hN3
  have HB3 := hid hB3
  clear hsf hN3 hB3 hb3 HN1
  go_wp2_with fail
  refine hnr.mono ?_
  rintro r w4 ⟨br, gr, vr, rfl, q1, q2, q3, hR, hb4, q4⟩
  have hN4 := (hb4.block _ (lt_of HN3.out)).trans HN3.out
  have hB4 := HB3.out.trans (hb4.mono HB3.out.size)
  have hbrN : w.heap.size ≠ br := by have := lt_of HN3.out; omega
  have hbr0 : w.heap.size ≤ br := Nat.le_trans HB3.out.size q1
  have c1 := rbyte1 br gr vr x3 (by rw [HX3.out]; omega) w4 hR
  rw [HMN.out] at c1
  have HN4 := hid hN4
  have HB4 := hid hB4
  clear hnr q1 q2 q3 q4 hb4 hN4 hB4 hR HN3
  go_wp2_with fail
  refine c1.mono ?_
  rintro r w5 ⟨rfl, v5, hR5, st5⟩
  have hN5 := (st5.block _ (lt_of HN4.out) hbrN).trans HN4.out
  have hB5 := HB4.out.trans (st5.belowB hbr0 HB4.out.size)
  have c2 := rcell2 br gr v5 (x3.drop 1) (by rw [List.length_drop, HX3.out]; omega) w5 hR5
  rw [HET.out] at c2
  have HN5 := hid hN5
  have HB5 := hid hB5
  clear c1 hN5 hB5 hR5 st5 HN4 HB4
  go_wp2_with fail
  refine c2.mono ?_
  rintro r w6 ⟨rfl, v6, hR6, st6⟩
  have hN6 := (st6.block _ (lt_of HN5.out) hbrN).trans HN5.out
  have hB6 := HB5.out.trans (st6.belowB hbr0 HB5.out.size)
  have hsl6 := HSB.out.below hB6
  rw [← HEBL.out] at hsl6
  have hrt := readTable_any _ (body l) (by rw [HEBL.out]; omega) mm hm255 w6 hsl6
  rw [HEBL.out] at hrt
  have HN6 := hid hN6
  have HB6 := hid hB6
  clear c2 hN6 hB6 hR6 st6 HN5 HB5 hsl6
  have hw4 := HW4.out
  cases htb : table (body l) mm with
  | none =>
    rw [htb] at hrt
    have hd : decB l = (72, ct0) := by rw [HDEC.out, htb]
    go_wp2_with fail
    refine hrt.mono ?_
    rintro e w7 ⟨⟨rp, rn, rc, rfl⟩, hb7⟩
    have hN7 := (hb7.block _ (lt_of HN6.out)).trans HN6.out
    obtain ⟨⟨k0, k1, k2, k3⟩, ⟨f0, f1, f2, f3⟩, ⟨z0, z1, z2, z3⟩⟩ := HCL.out w7 hN7
    have HN7 := hid hN7
    have HB7 := hid (HB6.out.trans (hb7.mono HB6.out.size))
    clear hN7 hb7 hrt
    go_wp2_with fail
    exact dec_err_end w w7 l _ rfl 72 rfl HN7.out HB7.out hd
  | some ls =>
    rw [htb] at hrt
    obtain ⟨m1, m2, _, m4, _⟩ := table_some htb
    have hd : decB l = (if secsOk ls then (0, cartOf en ls) else (73, ct0)) := by rw [HDEC.out, htb]
    go_wp2_with fail
    refine hrt.mono ?_
    rintro e w7 ⟨⟨g, rfl, hg, hSe⟩, hb7⟩
    have hN7 := (hb7.block _ (lt_of HN6.out)).trans HN6.out
    have hB7 := HB6.out.trans (hb7.mono HB6.out.size)
    have hrs := readSections_any en hety2 g ls (by omega) (by omega) w7 hSe
    have HN7 := hid hN7
    have HB7 := hid hB7
    have HD := hid hd
    clear hN7 hB7 hb7 hrt hd hSe m4
    go_wp2_with fail
    refine hrs.mono ?_
    rintro e w8 ⟨⟨v8, rfl, kv, ev, bv, prs, hO⟩, hb8⟩
    have hN8 := (hb8.block _ (lt_of HN7.out)).trans HN7.out
    have hB8 := HB7.out.trans (hb8.mono HB7.out.size)
    obtain ⟨⟨k0, k1, k2, k3⟩, ⟨f0, f1, f2, f3⟩, _⟩ := HCL.out w8 hN8
    have hv8 := hO.val
    obtain ⟨kp, kc, hkk, _⟩ := hO.code.sl.ex
    obtain ⟨ep, ec, hee⟩ := own_form hO.effs
    obtain ⟨bp, bc, hbb⟩ := own_form hO.banks
    have hfin : ∀ k, w.heap.size ≤ k → k < w8.heap.size → k ≠ w.heap.size → ((((w8.setCell ⟨w.heap.size, 0, none⟩ kv).setCell ⟨w.heap.size, 1, none⟩ (.int .u16 ((if secsOk ls then cartOf en ls else ct0).entry : Int))).setCell ⟨w.heap.size, 2, none⟩ ev).setCell ⟨w.heap.size, 3, none⟩ bv).heap[k]? = w8.heap[k]? := fun k _ _ hk => by
      rw [setCell_other _ _ _ _ _ hk, setCell_other _ _ _ _ _ hk, setCell_other _ _ _ _ _ hk, setCell_other _ _ _ _ _ hk]
    have hO2 := OwC.kept (W' := (((w8.setCell ⟨w.heap.size, 0, none⟩ kv).setCell ⟨w.heap.size, 1, none⟩ (.int .u16 ((if secsOk ls then cartOf en ls else ct0).entry : Int))).setCell ⟨w.heap.size, 2, none⟩ ev).setCell ⟨w.heap.size, 3, none⟩ bv) hO (fun k h1 h2 => hfin k (Nat.le_trans HB7.out.size h1) h2 (by have := lt_of HN7.out; omega))
    have hN9 := setCell_heap _ _ 3 _ _ bv (setCell_heap _ _ 2 _ _ ev (setCell_heap _ _ 1 _ _ (.int .u16 ((if secsOk ls then cartOf en ls else ct0).entry : Int)) (setCell_heap _ _ 0 _ _ kv hN8)))
    have hB9 := set_below (set_below (set_below (set_below hB8 (Nat.le_refl _) 0 kv) (Nat.le_refl _) 1 (.int .u16 ((if secsOk ls then cartOf en ls else ct0).entry : Int))) (Nat.le_refl _) 2 ev) (Nat.le_refl _) 3 bv
    have HO2 := hid hO2
    have HN9 := hid hN9
    have HB9 := hid hB9
    clear hO hN8 hB8 hb8 hrs hfin hO2 hN9 hB9
    have hCC : (decB l).2 = (if secsOk ls then cartOf en ls else ct0) := by rw [HD.out]; split <;> rfl
    have hEE : ((decB l).1 : Int) = (if secsOk ls then 0 else 73) := by rw [HD.out]; split <;> rfl
    have HCC := hid hCC
    have HEE := hid hEE
    clear hCC hEE HD
    generalize (if secsOk ls then cartOf en ls else ct0) = CC at *
    generalize (if secsOk ls = true then (0 : Int) else 73) = EE at *
    subst hv8
    generalize hlk : CC.code.length = lk at *
    generalize hle : CC.effs.length = le at *
    generalize hlp : prs.length = lp at *
    subst hkk hee hbb
    have hbw := HB7.out.size
    go_wp2_with fail
    refine bodyPost_ret (dec_res w _ _ rfl _ rfl _ _ _ _ HN9.out) rfl ⟨⟨_, by rw [HEE.out]; rfl, ?_⟩, HB9.out⟩
    rw [HCC.out]
    exact ⟨_, _, _, _, HO2.out.mono hbw⟩
end Go.Proofs.YtmlpijjjkpnioaaDoor.C
