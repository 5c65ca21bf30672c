import Derived.Test.YtmlpijjjkpnioaaDoorCEffs
/-! readTable. -/
namespace Go.Proofs.YtmlpijjjkpnioaaDoor.C
open Go.RowKit
open Go.Proofs
open Go.Proofs.YtmlpijjjkpnioaaDoor.K
set_option linter.unusedVariables false
set_option linter.unusedSimpArgs false
set_option maxHeartbeats 2000000
set_option maxRecDepth 100000
theorem slice_lh (W : World) (p : Option Addr) (n cap lo hi : Nat) (zl zh : Int) (hzl : zl = (lo : Int)) (hzh : zh = (hi : Int)) (h1 : lo ≤ hi) (h2 : hi ≤ cap) : (Instr.sliceAt 22 (.slice p n cap) (some (.int .i64 zl)) (some (.int .i64 zh)) none).run Tryd.prog W = .ok (.slice (if cap = lo then p else p.map (·.add lo)) (hi - lo) (cap - lo)) W := by
  subst hzl hzh
  rw [run_sliceAt_slice W 22 _ _ _ _ elem22, run_slice_lh W 22 p n cap elem22 .i64 .i64 (lo : Int) (hi : Int) (by omega) (by omega) (by omega), size5]
  simp [Result.andThen, sliced]
def encP (x : Sec × Value) : V3 := (.int .u8 (x.1.1.toNat : Int), .int .u8 (x.1.2.1.toNat : Int), x.2)
theorem take_set3 (L : List V3) (M : List V3) (k : Nat) (x : V3) (h : L.take k = M) (hk : k < L.length) : (L.set k x).take (k + 1) = M ++ [x] := by
  rw [List.take_succ_eq_append_getElem (by simpa using hk)]
  congr 1
  · rw [List.take_set_of_le (Nat.le_refl _)]; exact h
  · simp
theorem R3.ses {w W : World} {g : Nat} {prs : List (Sec × Value)} (h : R3 W g 96 (prs.map encP)) (hb : Below w.heap.size w W) (hd : ∀ x ∈ prs, Sl w x.2 x.1.2.2 ∧ x.1.2.2.length ≤ room) : SeS W (some ⟨g, 0, none⟩) (prs.map Prod.fst) := by
  intro i t ht
  rw [List.getElem?_map, Option.map_eq_some_iff] at ht
  obtain ⟨x, hx, rfl⟩ := ht
  obtain ⟨c1, c2, c3⟩ := h.cell i (encP x) (by rw [List.getElem?_map, hx]; rfl)
  obtain ⟨q1, q2⟩ := hd x (List.mem_of_getElem? hx)
  exact ⟨g, 0, x.2, rfl, by simpa [encP] using c1, by simpa [encP] using c2, by simpa [encP] using c3, q1.below hb, q2⟩
theorem tabD_no {body : List UInt8} {m i : Nat} {q : Int} {a : Nat} {t : List UInt8} (h : rowOk i (k_ t) (n_ t) q = false ∨ b_ t ≠ a ∨ body.length - a < s_ t) : tabD body (m + 1) i q a t = none := by
  simp only [tabD]
  rw [if_neg]
  rintro ⟨h1, h2, h3⟩
  rcases h with h | h | h
  · rw [h1] at h; cases h
  · exact h h2
  · omega
theorem tabD_yes {body : List UInt8} {m i : Nat} {q : Int} {a : Nat} {t : List UInt8} (h1 : rowOk i (k_ t) (n_ t) q = true) (h2 : b_ t = a) (h3 : s_ t ≤ body.length - a) : tabD body (m + 1) i q a t = (tabD body m (i + 1) (nxt (k_ t) (n_ t) q) (a + s_ t) (t.drop 10)).map ((k_ t, n_ t, (body.drop a).take (s_ t)) :: ·) := by
  simp only [tabD]
  rw [if_pos ⟨h1, h2, h3⟩]
/-- What readTable answers. -/
def TabO (w w' : World) (o : Option (List Sec)) (e : Ending) : Prop :=
  match o with
  | none => ∃ p n c, e = .returned (.tuple #[.slice p n c, .bool false])
  | some ls => ∃ g, e = .returned (.tuple #[.slice (some ⟨g, 0, none⟩) ls.length ls.length, .bool true]) ∧ w.heap.size ≤ g ∧ SeS w' (some ⟨g, 0, none⟩) ls
theorem readTable_any (v : Value) (l : List UInt8) (hl : l.length ≤ 524288) (m : Nat) (hm : m ≤ 255) (w : World) (h : Sl w v l) :
    Calls Tryd.prog 39 #[v, .int .i64 (m : Int)] w fun e w' => TabO w w' (table l m) e ∧ Below w.heap.size w w' := by
  have hs := h
  obtain ⟨p, c, rfl, _⟩ := h.ex
  have hlc : l.length ≤ c := by
    rcases hs with ⟨e, rfl⟩ | ⟨_, _, e, hc, _⟩
    · cases e; simp
    · cases e; exact hc
  by_cases h2 : m < 2
  · have hf : table l m = none := by unfold table; rw [if_pos (.inl h2)]
    have i1 : decide ((m : Int) < 2) = true := by simp; omega
    rw [hf]
    go_enter Tryd.func39, Tryd.ntmps39
    go_wp2
    go_ret2
    exact ⟨⟨_, _, _, rfl⟩, Below.refl _ _⟩
  have i1 : decide ((m : Int) < 2) = false := by simp; omega
  by_cases h3 : 18 < m
  · have hf : table l m = none := by unfold table; rw [if_pos (.inr (.inl h3))]
    have i2 : decide ((18 : Int) < m) = true := by simp; omega
    rw [hf]
    go_enter Tryd.func39, Tryd.ntmps39
    go_wp2
    go_ret2
    exact ⟨⟨_, _, _, rfl⟩, Below.refl _ _⟩
  have i2 : decide ((18 : Int) < m) = false := by simp; omega
  by_cases h4 : l.length < 8 + 10 * m
  · have hf : table l m = none := by unfold table; rw [if_pos (.inr (.inr h4))]
    have i3 : decide ((l.length : Int) < 8 + 10 * (m : Int)) = true := by simp; omega
    rw [hf]
    go_enter Tryd.func39, Tryd.ntmps39
    go_wp2
    go_ret2
    exact ⟨⟨_, _, _, rfl⟩, Below.refl _ _⟩
  have i3 : decide ((l.length : Int) < 8 + 10 * (m : Int)) = false := by simp; omega
  have hf : table l m = tabD l m 0 (-1) (8 + 10 * m) ((l.drop 8).take (10 * m)) := by unfold table; rw [if_neg (by omega)]
  have HF := hid hf
  have hs8 := (hs.drop 8 (by omega)).take (10 * m) (by simp; omega)
  have s8 := fun W => slice_lh W p l.length c 8 (8 + 10 * m) 8 (8 + 10 * (m : Int)) rfl (by omega) (by omega) (by omega)
  rw [show 8 + 10 * m - 8 = 10 * m by omega] at s8
  generalize (if c = 8 then p else p.map (·.add 8)) = P8 at *
  have hTl : ((l.drop 8).take (10 * m)).length = 10 * m := by simp; omega
  generalize (l.drop 8).take (10 * m) = T at *
  have hnr := newreader_any _ T (by rw [hTl]; unfold room; omega) w hs8
  have hmk := fun W => make_secs m (by omega) W
  have HTl := hid hTl
  have HS := hid hs
  clear hf hs8 hTl hs h
  go_enter Tryd.func39, Tryd.ntmps39
  go_wp2_with fail
  refine hnr.mono ?_
  rintro r w1 ⟨br, gr, vr, rfl, q1, q2, q3, hR, hb1, q4⟩
  have hg0 : gr ≠ w1.heap.size := by
    rcases q4 with q4 | q4
    · omega
    · exfalso
      rcases hR.sl with ⟨_, e⟩ | ⟨x, _, e, _, _⟩
      · have := HTl.out; rw [e] at this; simp at this; omega
      · rw [e] at q4; cases q4
  have hbr : br ≠ w1.heap.size := Nat.ne_of_lt hR.lt
  have hba : Below w1.heap.size w1 (w1.alloc (.cells (t3 (List.replicate m (Value.int .u8 0, Value.int .u8 0, Value.slice none 0 0))).toArray 96)) := (Below.refl _ _).alloc (Nat.le_refl _) _
  have H0 : Hid (R3 (w1.alloc (.cells (t3 (List.replicate m (Value.int .u8 0, Value.int .u8 0, Value.slice none 0 0))).toArray 96)) w1.heap.size 96 (List.replicate m (Value.int .u8 0, Value.int .u8 0, Value.slice none 0 0))) := hid (heap_alloc_new w1 _)
  have HR0 := hid (hR.below hba)
  have HB0 := hid (hb1.trans (hba.mono hb1.size))
  have HB1 := hid hb1
  clear hnr hR hb1 q2 q3 q4 hba i1 i2 i3 s8
  generalize hMC : (t3 (List.replicate m (Value.int .u8 0, Value.int .u8 0, Value.slice none 0 0))).toArray = MC at *
  clear hMC
  go_wp2_with fail
  clear hmk
  go_loopw [6, 9, 38] (fun a q i wr => ∃ (k A : Nat) (Q : Int) (prs : List (Sec × Value)) (L : List V3) (vr : Value), k ≤ m ∧ i = .int .i64 (k : Int) ∧ a = .int .i64 (A : Int) ∧ q = .int .i64 Q ∧ A ≤ l.length ∧ table l m = (tabD l (m - k) k Q A (T.drop (10 * k))).map (prs.map Prod.fst ++ ·) ∧ prs.length = k
      ∧ L.length = m ∧ L.take k = prs.map encP ∧ (∀ x ∈ prs, Sl w x.2 x.1.2.2 ∧ x.1.2.2.length ≤ room) ∧ R3 wr w1.heap.size 96 L ∧ Rd wr br gr vr (T.drop (10 * k)) 0 ∧ Below w.heap.size w wr) (fun _ _ i _ => m - (intOf i).toNat)
  case atStart => exact ⟨0, 8 + 10 * m, -1, [], List.replicate m (Value.int .u8 0, Value.int .u8 0, Value.slice none 0 0), vr, by omega, rfl, by simp, rfl, by omega, by rw [HF.out]; simp, rfl, by simp, by simp, by intro x hx; simp at hx, H0.out, by simpa using HR0.out, HB0.out⟩
  case round =>
    clear H0 HR0 HB0 HF
    obtain ⟨k, A, Q, prs, L, vr, hk, rfl, rfl, rfl, hA, hTab, hP, hL, hLT, hD, hM, hR, hB⟩ := hrel
    by_cases hlt : k < m
    case neg =>
      obtain rfl : k = m := by omega
      have HTab := hid hTab
      have HM := hid hM
      have HB := hid hB
      have HD := hid hD
      have HLT := hid hLT
      have HL := hid hL
      have HP := hid hP
      clear hTab hM hB hR hD hLT hL hP
      by_cases hAl : A = l.length
      · have d1 : ((A : Int) == (l.length : Int)) = true := by simp [hAl]
        have ht : table l k = some (prs.map Prod.fst) := by rw [HTab.out]; simp [tabD, hAl]
        have HA := hid hAl
        clear hAl
        go_wp2
        go_ret2
        rw [ht]
        have hM2 := HM.out
        rw [show L = prs.map encP by rw [← HLT.out, List.take_of_length_le (by rw [HL.out]; exact Nat.le_refl _)]] at hM2
        refine ⟨⟨w1.heap.size, ?_, HB1.out.size, hM2.ses HB.out HD.out⟩, HB.out⟩
        rw [List.length_map, HP.out]; rfl
      · have d1 : ((A : Int) == (l.length : Int)) = false := by simp; omega
        have ht : table l k = none := by rw [HTab.out]; simp [tabD, hAl]
        go_wp2
        go_ret2
        rw [ht]
        exact ⟨⟨_, _, _, rfl⟩, HB.out⟩
    have i1 : (k : Int) < m := by omega
    obtain ⟨D, HDD⟩ : ∃ D, Hid (l.length = A + D) := ⟨l.length - A, hid (by omega)⟩
    have hTk : 10 ≤ (T.drop (10 * k)).length := by rw [List.length_drop, HTl.out]; omega
    have hnx : T.drop (10 * (k + 1)) = (((((T.drop (10 * k)).drop 1).drop 1).drop 4).drop 4) := by simp only [List.drop_drop]; congr 1
    have hmk' : m - k = (m - (k + 1)) + 1 := by omega
    rw [hmk'] at hTab
    have HNO := hid (fun x => hTab.trans (by rw [tabD_no x]; rfl) : (rowOk k (k_ (T.drop (10 * k))) (n_ (T.drop (10 * k))) Q = false ∨ b_ (T.drop (10 * k)) ≠ A ∨ l.length - A < s_ (T.drop (10 * k))) → table l m = none)
    have HYES := hid (fun x1 x2 x3 => hTab.trans (by rw [tabD_yes x1 x2 x3]) : ∀ (x1 : rowOk k (k_ (T.drop (10 * k))) (n_ (T.drop (10 * k))) Q = true) (x2 : b_ (T.drop (10 * k)) = A) (x3 : s_ (T.drop (10 * k)) ≤ l.length - A), table l m = ((tabD l (m - (k + 1)) (k + 1) (nxt (k_ (T.drop (10 * k))) (n_ (T.drop (10 * k))) Q) (A + s_ (T.drop (10 * k))) ((T.drop (10 * k)).drop 10)).map ((k_ (T.drop (10 * k)), n_ (T.drop (10 * k)), (l.drop A).take (s_ (T.drop (10 * k)))) :: ·)).map (prs.map Prod.fst ++ ·))
    clear hTab hmk'
    have HNX := hid hnx
    have hT10 : (T.drop (10 * k)).drop 10 = T.drop (10 * (k + 1)) := by rw [List.drop_drop]; congr 1
    rw [hT10] at HYES
    clear hnx hT10
    generalize T.drop (10 * k) = t at hR HNO HYES hTk HNX
    have ek : k_ t = t.getD 0 0 := rfl
    have en : n_ t = (t.drop 1).getD 0 0 := by
      match t, hTk with
      | a :: b :: r, _ => rfl
    have eb : b_ t = numL (((t.drop 1).drop 1).take 4) := by simp only [b_, List.drop_drop]
    have es : s_ t = numL ((((t.drop 1).drop 1).drop 4).take 4) := by simp only [s_, List.drop_drop]
    have bb := numL_lt (((t.drop 1).drop 1).take 4)
    have bs := numL_lt ((((t.drop 1).drop 1).drop 4).take 4)
    rw [← eb] at bb
    rw [← es] at bs
    have lb : (((t.drop 1).drop 1).take 4).length = 4 := by simp; omega
    have ls : ((((t.drop 1).drop 1).drop 4).take 4).length = 4 := by simp; omega
    rw [lb] at bb
    rw [ls] at bs
    have hl1 : 1 ≤ t.length := by omega
    have hl2 : 1 ≤ (t.drop 1).length := by simp; omega
    have hl3 : 4 ≤ ((t.drop 1).drop 1).length := by simp; omega
    have hl4 : 4 ≤ (((t.drop 1).drop 1).drop 4).length := by simp; omega
    have c1 := rbyte1 br gr vr t hl1 wr hR
    rw [← ek] at c1
    have HEN := hid en
    have HEB := hid eb
    have HES := hid es
    have HM := hid hM
    have HB := hid hB
    have HD := hid hD
    have HLT := hid hLT
    have HL := hid hL
    have HP := hid hP
    clear hR hM hB hD hLT hL hP ek en eb es lb ls hTk
    go_wp2_with fail
    refine c1.mono ?_
    rintro r w2 ⟨rfl, v2, hR2, s2⟩
    have c2 := rbyte1 br gr v2 (t.drop 1) hl2 w2 hR2
    rw [← HEN.out] at c2
    have HM2 := hid (HM.out.step s2 hbr)
    have HB2 := hid (HB.out.trans (s2.belowB q1 HB.out.size))
    clear c1 hR2 s2 HM HB HEN
    go_wp2_with fail
    refine c2.mono ?_
    rintro r w3 ⟨rfl, v3, hR3, s3⟩
    have c3 := rwordN br gr v3 ((t.drop 1).drop 1) hl3 w3 hR3
    rw [← HEB.out] at c3
    have HM3 := hid (HM2.out.step s3 hbr)
    have HB3 := hid (HB2.out.trans (s3.belowB q1 HB2.out.size))
    clear c2 hR3 s3 HM2 HB2 HEB
    go_wp2_with fail
    refine c3.mono ?_
    rintro r w4 ⟨rfl, v4, hR4, s4⟩
    have c4 := rwordN br gr v4 (((t.drop 1).drop 1).drop 4) hl4 w4 hR4
    rw [← HES.out] at c4
    have HM4 := hid (HM3.out.step s4 hbr)
    have HB4 := hid (HB3.out.trans (s4.belowB q1 HB3.out.size))
    clear c3 hR4 s4 HM3 HB3 HES
    go_wp2_with fail
    refine c4.mono ?_
    rintro r w5 ⟨rfl, v5, hR5, s5⟩
    rw [← HNX.out] at hR5
    have hrm := rowMay_any k (by omega) (k_ t) (n_ t) Q w5
    have HM5 := hid (HM4.out.step s5 hbr)
    have HB5 := hid (HB4.out.trans (s5.belowB q1 HB4.out.size))
    have HR5 := hid hR5
    clear c4 hR5 s5 HM4 HB4 HNX hl1 hl2 hl3 hl4
    have y2 : (l.length : Int) - (A : Int) = (D : Int) := by have := HDD.out; omega
    have y3 : l.length - A = D := by have := HDD.out; omega
    rw [y3] at HNO HYES
    have hD2 : D ≤ 524288 := by omega
    have hA2 : A ≤ 524288 := by omega
    clear y3
    generalize k_ t = kk at hrm HNO HYES ⊢
    generalize n_ t = nn at hrm HNO HYES ⊢
    generalize b_ t = be at bb HNO HYES ⊢
    generalize s_ t = ss at bs HNO HYES ⊢
    have yn : wrap64 (nn.toNat : Int) = (nn.toNat : Int) := by have := u8lt nn; simp [wrap64]; omega
    have YN := hid yn
    by_cases r1 : rowOk k kk nn Q = true
    case neg =>
      have r1 : rowOk k kk nn Q = false := by simpa using r1
      have ht := HNO.out (.inl r1)
      rw [r1] at hrm
      clear HNO HYES
      go_wp2_with (first | (go_at_call 56; refine hrm.mono ?_; rintro e w6 ⟨rfl, hw6⟩; obtain rfl := hw6.symm))
      go_ret2
      rw [ht]
      exact ⟨⟨_, _, _, rfl⟩, HB5.out⟩
    rw [r1] at hrm
    have y1 : (A : Int) % 4294967296 = A := by omega
    have y4 : (D : Int) % 4294967296 = D := by omega
    by_cases r2 : be = A
    case neg =>
      have d2 : ((be : Int) != (A : Int)) = true := by simp; omega
      have ht := HNO.out (.inr (.inl r2))
      clear HNO HYES
      go_wp2_with (first | (go_at_call 56; refine hrm.mono ?_; rintro e w6 ⟨rfl, hw6⟩; obtain rfl := hw6.symm))
      go_ret2
      rw [ht]
      exact ⟨⟨_, _, _, rfl⟩, HB5.out⟩
    subst r2
    by_cases r3 : ss ≤ D
    case neg =>
      have d3 : decide (D < ss) = true := by simp; omega
      have ht := HNO.out (.inr (.inr (Nat.lt_of_not_le r3)))
      clear HNO HYES
      go_wp2_with (first | (go_at_call 56; refine hrm.mono ?_; rintro e w6 ⟨rfl, hw6⟩; obtain rfl := hw6.symm))
      go_ret2
      rw [ht]
      exact ⟨⟨_, _, _, rfl⟩, HB5.out⟩
    have d3 : decide (D < ss) = false := by simp; omega
    have ht := HYES.out r1 rfl r3
    obtain ⟨Pa, hPa⟩ : ∃ Pa, Pa = (if c = be then p else p.map (·.add be)) := ⟨_, rfl⟩
    have hpc : Sl w (.slice Pa ss (c - be)) ((l.drop be).take ss) := by
      rw [hPa]; exact (HS.out.drop be hA).take ss (by rw [List.length_drop, HDD.out]; omega)
    have hpl : ((l.drop be).take ss).length ≤ room := by rw [List.length_take]; unfold room; omega
    have s15 := fun W => slice_lh W p l.length c be (be + ss) (be : Int) ((be : Int) + (ss : Int)) rfl (by omega) (by omega) (by have := HDD.out; omega)
    rw [← hPa, show be + ss - be = ss by omega] at s15
    obtain ⟨x0, hx0⟩ : ∃ x0, L[k]? = some x0 := ⟨_, List.getElem?_eq_getElem (by rw [HL.out]; omega)⟩
    obtain ⟨k0, k1, k2⟩ := HM5.out.cell k x0 hx0
    have f0 := HM5.out.fz (k * 3)
    have f1 := HM5.out.fz (k * 3 + 1)
    have f2 := HM5.out.fz (k * 3 + 2)
    have HPR : Hid (∀ x ∈ prs ++ [(((kk, nn, (l.drop be).take ss), Value.slice Pa ss (c - be)) : Sec × Value)], Sl w x.2 x.1.2.2 ∧ x.1.2.2.length ≤ room) := hid (by
      intro x hx
      rw [List.mem_append, List.mem_singleton] at hx
      rcases hx with hx | rfl
      · exact HD.out x hx
      · exact ⟨hpc, hpl⟩)
    have HTB : Hid (table l m = (tabD l (m - (k + 1)) (k + 1) (nxt kk nn Q) (be + ss) (T.drop (10 * (k + 1)))).map ((prs ++ [(((kk, nn, (l.drop be).take ss), Value.slice Pa ss (c - be)) : Sec × Value)]).map Prod.fst ++ ·)) := hid (by
      rw [ht, Option.map_map]
      congr 1
      funext z
      simp)
    have HLT2 : Hid ((L.set k (encP (((kk, nn, (l.drop be).take ss), Value.slice Pa ss (c - be)) : Sec × Value))).take (k + 1) = (prs ++ [(((kk, nn, (l.drop be).take ss), Value.slice Pa ss (c - be)) : Sec × Value)]).map encP) := hid (by
      rw [take_set3 L _ k _ HLT.out (by rw [HL.out]; omega), List.map_append]; rfl)
    have HM6 := hid (HM5.out.store k (by rw [HL.out]; omega) (encP (((kk, nn, (l.drop be).take ss), Value.slice Pa ss (c - be)) : Sec × Value)))
    have HR6 := hid (rd_st3 HR5.out w1.heap.size k (encP (((kk, nn, (l.drop be).take ss), Value.slice Pa ss (c - be)) : Sec × Value)) hbr hg0)
    have HB6 := hid (st3_below w1.heap.size k (encP (((kk, nn, (l.drop be).take ss), Value.slice Pa ss (c - be)) : Sec × Value)) HB5.out HB1.out.size)
    have hAe : be + ss ≤ l.length := by have := HDD.out; omega
    have HAe := hid hAe
    have hss : ss ≤ 524288 := by omega
    clear ht hPa hpc hpl HYES HNO HD HM5 HR5 HB5 HLT hAe r1 hx0
    generalize x0.1 = z0 at k0
    generalize x0.2.1 = z1 at k1
    generalize x0.2.2 = z2 at k2
    simp only [st3, encP] at HM6 HR6 HB6
    by_cases r4 : kk = 3
    · subst r4
      have d4 : (((3 : UInt8).toNat : Int) == 3) = true := rfl
      have HNX2 : Hid (nxt 3 nn Q = (nn.toNat : Int)) := hid (by simp [nxt])
      go_wp2_with (first | (go_at_call 56; refine hrm.mono ?_; rintro e w6 ⟨rfl, hw6⟩; obtain rfl := hw6.symm))
      go_roundw
      case rel =>
        first
          | exact ⟨k + 1, be + ss, nxt 3 nn Q, _, _, v5, by omega, by go_num, by go_num, by rw [HNX2.out, YN.out], HAe.out, HTB.out, by simp [HP.out], by simpa using HL.out, HLT2.out, HPR.out, HM6.out, HR6.out, HB6.out⟩
          | ((repeat apply Exists.intro); refine ⟨⟨k + 1, be + ss, nxt 3 nn Q, _, _, v5, by omega, ?_, ?_, ?_, HAe.out, HTB.out, by simp [HP.out], by simpa using HL.out, HLT2.out, HPR.out, HM6.out, HR6.out, HB6.out⟩, rfl⟩; go_num; go_num; rw [HNX2.out, YN.out])
      case measure => simp [intOf]; omega
    · have d4 : ((kk.toNat : Int) == 3) = false := by
        have : kk.toNat ≠ 3 := fun e => r4 (UInt8.toNat_inj.1 e)
        simp; omega
      have HNX2 : Hid (nxt kk nn Q = Q) := hid (by simp [nxt, r4])
      go_wp2_with (first | (go_at_call 56; refine hrm.mono ?_; rintro e w6 ⟨rfl, hw6⟩; obtain rfl := hw6.symm))
      go_roundw
      case rel =>
        first
          | exact ⟨k + 1, be + ss, nxt kk nn Q, _, _, v5, by omega, by go_num, by go_num, by rw [HNX2.out], HAe.out, HTB.out, by simp [HP.out], by simpa using HL.out, HLT2.out, HPR.out, HM6.out, HR6.out, HB6.out⟩
          | ((repeat apply Exists.intro); refine ⟨⟨k + 1, be + ss, nxt kk nn Q, _, _, v5, by omega, ?_, ?_, ?_, HAe.out, HTB.out, by simp [HP.out], by simpa using HL.out, HLT2.out, HPR.out, HM6.out, HR6.out, HB6.out⟩, rfl⟩; go_num; go_num; rw [HNX2.out])
      case measure => simp [intOf]; omega
end Go.Proofs.YtmlpijjjkpnioaaDoor.C
