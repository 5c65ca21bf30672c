import Derived.Test.YtmlpijjjkpnioaaDoorCMath
/-! There and back: promise 7.5, by lists. -/
namespace Go.Proofs.YtmlpijjjkpnioaaDoor.C
open Go.Proofs.YtmlpijjjkpnioaaDoor.K
set_option linter.unusedVariables false
set_option linter.unusedSimpArgs false

theorem bank_num {p x : Int} (hp : -1 ≤ p) (h1 : p < x) (h2 : x < 16) : ((by8 x.toNat).toNat : Int) = x ∧ (by8 x.toNat).toNat < 16 := by rw [by8_nat]; omega
theorem bank_rows : ∀ (bs : List Bk) (i : Nat) (p : Int), 2 ≤ i → -1 ≤ p → bankG p bs = true → rowsOk i p (bs.map bsec) = true
  | [], _, _, _, _, _ => rfl
  | x :: bs, i, p, hi, hp, h => by
    simp only [bankG, Bool.and_eq_true, decide_eq_true_eq] at h
    obtain ⟨e1, e2⟩ := bank_num hp h.1.1.1 h.1.1.2
    have ih := bank_rows bs (i + 1) x.1 (by omega) (by omega) h.2
    simp only [List.map_cons, rowsOk, bsec, Bool.and_eq_true, nxt, if_true, e1]
    refine ⟨?_, ih⟩
    unfold rowOk
    rw [if_neg (by omega), if_neg (by omega)]
    simp only [e1, e2, true_and, and_true, decide_eq_true_eq]
    exact h.1.1.1
theorem bank_count : ∀ (bs : List Bk) (p : Int), -1 ≤ p → p ≤ 15 → bankG p bs = true → (bs.length : Int) ≤ 15 - p
  | [], p, _, h, _ => by simp; omega
  | x :: bs, p, hp, hq, h => by
    simp only [bankG, Bool.and_eq_true, decide_eq_true_eq] at h
    have ih := bank_count bs x.1 (by omega) (by omega) h.2
    simp only [List.length_cons]; omega
theorem bank_size : ∀ (bs : List Bk) (p : Int), bankG p bs = true → (datB (bs.map bsec)).length ≤ 16384 * bs.length
  | [], p, _ => by simp [datB]
  | x :: bs, p, h => by
    simp only [bankG, Bool.and_eq_true, decide_eq_true_eq, datOk] at h
    have ih := bank_size bs x.1 h.2
    simp only [List.map_cons, datB, bsec, List.length_append, List.length_cons]
    omega
theorem bank_dts : ∀ (bs : List Bk) (p : Int), bankG p bs = true → dts (bs.map bsec) = true
  | [], p, _ => rfl
  | x :: bs, p, h => by
    simp only [bankG, Bool.and_eq_true, decide_eq_true_eq] at h
    have ih := bank_dts bs x.1 h.2
    simp only [dts, List.map_cons, List.all_cons, Bool.and_eq_true] at ih ⊢
    exact ⟨h.1.2, ih⟩
theorem bank_bks : ∀ (bs : List Bk) (p : Int), -1 ≤ p → bankG p bs = true → bks (bs.map bsec) = bs
  | [], p, _, _ => rfl
  | x :: bs, p, hp, h => by
    simp only [bankG, Bool.and_eq_true, decide_eq_true_eq] at h
    have ih := bank_bks bs x.1 (by omega) h.2
    obtain ⟨e1, e2⟩ := bank_num hp h.1.1.1 h.1.1.2
    simp only [bks, List.map_cons, bsec] at ih ⊢
    rw [ih, e1]
theorem may_parts {c : Ct} (h : may c = true) : codeB c.code = true ∧ effsB c.effs = true ∧ bankG (-1) c.banks = true := by
  simp only [may, Bool.and_eq_true] at h; exact ⟨h.1.1, h.1.2, h.2⟩
theorem secs_len (c : Ct) : (secs c).length = 2 + c.banks.length := by simp [secs]; omega
theorem may_many {c : Ct} (h : may c = true) : c.banks.length ≤ 16 := by
  have := bank_count c.banks (-1) (by omega) (by omega) (may_parts h).2.2; omega
theorem dat_size {c : Ct} (h : may c = true) : (datB (secs c)).length ≤ 327680 := by
  obtain ⟨h1, h2, h3⟩ := may_parts h
  have a := bank_size c.banks (-1) h3
  have b := may_many h
  simp only [codeB, decide_eq_true_eq] at h1
  simp only [effsB, Bool.and_eq_true, decide_eq_true_eq] at h2
  simp only [secs, datB, List.length_append, effB_len]
  omega
theorem lay_len (e : Nat) (l : List Sec) : (bodyB e l).length = 8 + 10 * l.length + (datB l).length := by
  simp [bodyB, magic, low_len, tabB_len]; omega
theorem enc_len (c : Ct) : (encB c).length = (layB c).length + 4 := by simp [encB, low_len]
theorem enc_size {c : Ct} (h : may c = true) : 32 ≤ (encB c).length ∧ (encB c).length ≤ 327872 := by
  have a := dat_size h; have b := may_many h
  rw [enc_len, layB, lay_len, secs_len]; omega
theorem take_left {α : Type} {a b : List α} {n : Nat} (h : a.length = n) : (a ++ b).take n = a := by subst h; simp
theorem drop_left {α : Type} {a b : List α} {n : Nat} (h : a.length = n) : (a ++ b).drop n = b := by subst h; simp
theorem enc_shape (c : Ct) : encB c = magic ++ ([by8 (secs c).length] ++ (low 2 c.entry ++ (tabB (8 + 10 * (secs c).length) (secs c) ++ (datB (secs c) ++ low 4 (crc (layB c)))))) := by simp [encB, layB, bodyB]
theorem enc_five (c : Ct) : (encB c).take 5 = magic := by rw [enc_shape]; exact take_left rfl
theorem enc_body (c : Ct) : body (encB c) = layB c := by unfold body; rw [enc_len]; exact take_left (by omega)
theorem enc_sum {c : Ct} (h : may c = true) : sumOk (encB c) = true := by
  have hz := enc_size h
  have hl := enc_len c
  have e1 : (encB c).drop ((encB c).length - 4) = low 4 (crc (layB c)) := by rw [hl]; exact drop_left (by omega)
  have e2 := enc_body c
  unfold body at e2
  have e3 : crc (layB c) % 256 ^ 4 = crc (layB c) := Nat.mod_eq_of_lt (by have := crc_lt (layB c); omega)
  simp only [sumOk, decide_eq_true_eq]
  refine ⟨by omega, by omega, ?_⟩
  rw [e1, e2, numL_low, e3]
theorem enc_many {c : Ct} (h : may c = true) : many (encB c) = (secs c).length := by
  have := may_many h
  have hl := secs_len c
  unfold many
  rw [enc_shape]
  show (by8 (secs c).length).toNat = _
  rw [by8_nat]; omega
theorem enc_entry {c : Ct} (h : c.entry < 65536) : entryOf (encB c) = c.entry := by
  unfold entryOf
  rw [enc_shape, ← List.append_assoc, drop_left (by rfl), low_take, numL_low]
  exact Nat.mod_eq_of_lt (by omega)
theorem rows_secs {c : Ct} (h : may c = true) : rowsOk 0 (-1) (secs c) = true := by
  have h3 := bank_rows c.banks 2 (-1) (by omega) (by omega) (may_parts h).2.2
  simp only [secs, rowsOk, nxt, Bool.and_eq_true]
  exact ⟨rfl, rfl, h3⟩
theorem enc_table {c : Ct} (h : may c = true) : table (layB c) (secs c).length = some (secs c) := by
  have hm := may_many h
  have hl := secs_len c
  have hz := dat_size h
  have hL : (layB c).length = 8 + 10 * (secs c).length + (datB (secs c)).length := lay_len _ _
  have s1 : layB c = (magic ++ [by8 (secs c).length] ++ low 2 c.entry) ++ (tabB (8 + 10 * (secs c).length) (secs c) ++ datB (secs c)) := by simp [layB, bodyB]
  have d8 : (layB c).drop 8 = tabB (8 + 10 * (secs c).length) (secs c) ++ datB (secs c) := by rw [s1]; exact drop_left (by simp [magic, low_len])
  have dA : (layB c).drop (8 + 10 * (secs c).length) = datB (secs c) := by rw [← List.drop_drop, d8]; exact drop_left (tabB_len _ _)
  unfold table
  rw [if_neg (by omega), d8, take_left (tabB_len _ _)]
  have := tabD_B (layB c) (by omega) (secs c) 0 (-1) (8 + 10 * (secs c).length) [] (rows_secs h) dA (by omega)
  simpa using this
theorem effs_back {c : Ct} (h : may c = true) (hf : Fit c) : effD ((effB c.effs).length / 6) (effB c.effs) = c.effs := by
  have h2 := (may_parts h).2.1
  simp only [effsB, Bool.and_eq_true] at h2
  have := effD_B c.effs (-1) [] h2.2 hf.effs
  rw [effB_len, Nat.mul_div_cancel_left _ (by omega)]
  simpa using this
theorem secs_ok {c : Ct} (h : may c = true) (hf : Fit c) : secsOk (secs c) = true := by
  obtain ⟨h1, h2, h3⟩ := may_parts h
  have hb := effs_back h hf
  have hl := effB_len c.effs
  have h4 := bank_dts c.banks (-1) h3
  simp only [secsOk, Bool.and_eq_true]
  refine ⟨⟨h1, ?_⟩, h4⟩
  show esOk (effB c.effs) = true
  unfold esOk
  rw [hb, h2, hl]
  simp only [effsB, Bool.and_eq_true, decide_eq_true_eq] at h2
  simp; omega
theorem secs_cart {c : Ct} (h : may c = true) (hf : Fit c) : cartOf c.entry (secs c) = c :=
  Ct.ext' rfl rfl (effs_back h hf) (bank_bks c.banks (-1) (by omega) (may_parts h).2.2)
/-- 7.5, one way. -/
theorem dec_enc {c : Ct} (h : may c = true) (hf : Fit c) : decB (encB c) = (0, c) := by
  unfold decB
  rw [if_neg (by rw [enc_five]; simp), if_neg (by rw [enc_sum h]; simp), enc_body, enc_many h, enc_table h, enc_entry hf.entry]
  simp only [secs_ok h hf, if_true, secs_cart h hf]

theorem row_kind {i : Nat} {k n : UInt8} {p : Int} (hi : 2 ≤ i) (h : rowOk i k n p = true) : k = 3 ∧ p < (n.toNat : Int) ∧ n.toNat < 16 := by
  unfold rowOk at h
  rw [if_neg (by omega), if_neg (by omega)] at h
  simpa using h
theorem rows_back : ∀ (l : List Sec) (i : Nat) (p : Int), 2 ≤ i → rowsOk i p l = true → (bks l).map bsec = l ∧ (dts l = true → bankG p (bks l) = true)
  | [], _, _, _, _ => ⟨rfl, fun _ => rfl⟩
  | s :: l, i, p, hi, h => by
    simp only [rowsOk, Bool.and_eq_true] at h
    obtain ⟨k1, k2, k3⟩ := row_kind hi h.1
    obtain ⟨k, n, d⟩ := s
    simp only at *
    subst k1
    simp only [nxt, if_true] at h
    obtain ⟨r1, r2⟩ := rows_back l (i + 1) n.toNat (by omega) h.2
    have en : by8 ((n.toNat : Int)).toNat = n := by apply UInt8.toNat_inj.1; rw [by8_nat]; omega
    refine ⟨?_, fun hd => ?_⟩
    · simp only [bks, List.map_cons, bsec] at r1 ⊢
      rw [r1, en]
    · simp only [dts, List.all_cons, Bool.and_eq_true] at hd
      simp only [bks, List.map_cons, bankG, Bool.and_eq_true, decide_eq_true_eq]
      exact ⟨⟨⟨k2, by omega⟩, hd.1⟩, r2 hd.2⟩
theorem rows_front {l : List Sec} (h2 : 2 ≤ l.length) (h : rowsOk 0 (-1) l = true) : ∃ d e r, l = (1, 0, d) :: (2, 0, e) :: r ∧ rowsOk 2 (-1) r = true := by
  match l, h2 with
  | x :: y :: r, _ =>
    simp only [rowsOk, rowOk, Bool.and_eq_true, if_true, decide_eq_true_eq, Nat.zero_add, show ¬ (1 = 0) by decide, if_false] at h
    obtain ⟨⟨a1, a2⟩, ⟨b1, b2⟩, hr⟩ := h
    obtain ⟨xk, xn, xd⟩ := x
    obtain ⟨yk, yn, yd⟩ := y
    simp only at *
    subst a1 a2 b1 b2
    exact ⟨xd, yd, r, rfl, hr⟩
theorem table_some {bd : List UInt8} {m : Nat} {l : List Sec} (h : table bd m = some l) : 2 ≤ m ∧ m ≤ 18 ∧ 8 + 10 * m ≤ bd.length ∧ l.length = m ∧ (bd.drop 8).take (10 * m) = tabB (8 + 10 * m) l ∧ bd.drop (8 + 10 * m) = datB l ∧ rowsOk 0 (-1) l = true := by
  unfold table at h
  split at h
  · cases h
  · next c =>
    have hlen : ((bd.drop 8).take (10 * m)).length = 10 * m := by simp; omega
    obtain ⟨a, b, c', d⟩ := tabB_D bd m 0 (-1) (8 + 10 * m) _ l hlen (by omega) h
    exact ⟨by omega, by omega, by omega, a, b, c', d⟩
/-- 7.5, the other way. -/
theorem enc_dec {b : List UInt8} {c : Ct} (h : decB b = (0, c)) : may c = true ∧ Fit c ∧ encB c = b := by
  unfold decB at h
  split at h
  · simp at h
  · next h5 =>
    split at h
    · simp at h
    · next hs =>
      split at h
      · simp at h
      · next l hl =>
        split at h
        · next hok =>
          have hc : c = cartOf (entryOf b) l := by simpa using h.symm
          have h5' : b.take 5 = magic := by simpa using h5
          have hs' : sumOk b = true := by simpa using hs
          simp only [sumOk, decide_eq_true_eq] at hs'
          obtain ⟨z1, z2, z3⟩ := hs'
          obtain ⟨m1, m2, m3, m4, m5, m6, m7⟩ := table_some hl
          have hbl : (body b).length = b.length - 4 := by simp [body]
          obtain ⟨d, e, r, rfl, hr⟩ := rows_front (by omega) m7
          obtain ⟨r1, r2⟩ := rows_back r 2 (-1) (by omega) hr
          simp only [secsOk, Bool.and_eq_true] at hok
          obtain ⟨⟨o1, o2⟩, o3⟩ := hok
          have o1' : codeB d = true := o1
          have o2' : esOk e = true := o2
          have o3' : dts r = true := o3
          simp only [esOk, Bool.and_eq_true, decide_eq_true_eq] at o2'
          have he : effB (effD (e.length / 6) e) = e := effB_D _ e (by omega)
          have hc2 : c = ⟨d, entryOf b, effD (e.length / 6) e, bks r⟩ := hc
          have hsec : secs c = (1, 0, d) :: (2, 0, e) :: r := by rw [hc2]; simp only [secs, he, r1]
          have hen : entryOf b < 65536 := by
            have := numL_lt ((b.drop 6).take 2)
            have h2 : 2 ^ (8 * ((b.drop 6).take 2).length) ≤ 2 ^ 16 := Nat.pow_le_pow_right (by decide) (by simp; omega)
            unfold entryOf; omega
          have hmay : may c = true := by
            rw [hc2]; simp only [may, Bool.and_eq_true]; exact ⟨⟨o1', o2'.2⟩, r2 o3'⟩
          have hfit : Fit c := by rw [hc2]; exact ⟨hen, effD_fit _ _⟩
          refine ⟨hmay, hfit, ?_⟩
          have hlay : layB c = body b := by
            unfold layB bodyB
            rw [hsec, m4, show c.entry = entryOf b by rw [hc2]]
            have e5 : body b = (body b).take 5 ++ (body b).drop 5 := (List.take_append_drop 5 _).symm
            have t5 : (body b).take 5 = magic := by unfold body; rw [List.take_take, Nat.min_eq_left (by omega)]; exact h5'
            have g5 : (body b)[5]? = some (by8 (many b)) := by
              have hlt : 5 < b.length := by omega
              have : (body b)[5]? = b[5]? := by unfold body; rw [List.getElem?_take]; simp; omega
              rw [this, List.getElem?_eq_getElem hlt]
              congr 1
              apply UInt8.toNat_inj.1
              rw [by8_nat]
              have := u8lt b[5]
              simp only [many, List.getD_eq_getElem?_getD, List.getElem?_eq_getElem hlt, Option.getD_some]; omega
            have d5 : (body b).drop 5 = by8 (many b) :: (body b).drop 6 := by
              obtain ⟨hh, e⟩ := List.getElem?_eq_some_iff.1 g5
              rw [List.drop_eq_getElem_cons hh, e]
            have w2 : low 2 (entryOf b) = ((body b).drop 6).take 2 := by
              have : ((body b).drop 6).take 2 = (b.drop 6).take 2 := by
                unfold body
                rw [List.drop_take, List.take_take, Nat.min_eq_left (by omega)]
              rw [this]; exact low_of 2 (b.drop 6) (by simp; omega)
            have d6 : (body b).drop 6 = ((body b).drop 6).take 2 ++ (body b).drop 8 := by
              rw [show (body b).drop 8 = ((body b).drop 6).drop 2 by rw [List.drop_drop]]; exact (List.take_append_drop 2 _).symm
            have d8 : (body b).drop 8 = ((body b).drop 8).take (10 * many b) ++ (body b).drop (8 + 10 * many b) := by
              rw [← List.drop_drop]; exact (List.take_append_drop _ _).symm
            rw [w2, ← m5, ← m6]
            conv => rhs; rw [e5, t5, d5, d6, d8]
            simp
          unfold encB
          rw [hlay]
          have z4 : low 4 (crc (body b)) = b.drop (b.length - 4) := by
            unfold body; rw [← z3]
            have h4 : (b.drop (b.length - 4)).length = 4 := by simp; omega
            have := low_numL (b.drop (b.length - 4)); rwa [h4] at this
          rw [z4]; exact List.take_append_drop _ _
        · simp at h
theorem dec_err (b : List UInt8) : ((decB b).1 = 0 ∨ ((decB b).1 = 70 ∨ (decB b).1 = 71 ∨ (decB b).1 = 72 ∨ (decB b).1 = 73) ∧ (decB b).2 = ct0) := by
  unfold decB
  split
  · exact .inr ⟨.inl rfl, rfl⟩
  · split
    · exact .inr ⟨.inr (.inl rfl), rfl⟩
    · split
      · exact .inr ⟨.inr (.inr (.inl rfl)), rfl⟩
      · split
        · exact .inl rfl
        · exact .inr ⟨.inr (.inr (.inr rfl)), rfl⟩
end Go.Proofs.YtmlpijjjkpnioaaDoor.C
