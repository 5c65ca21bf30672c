import Derived.Test.YtmlpijjjkpnioaaDoorCRLow
/-! The reference's Decode, as lists. -/
namespace Go.Proofs.YtmlpijjjkpnioaaDoor.C
open Go.Proofs.YtmlpijjjkpnioaaDoor.K
set_option linter.unusedVariables false
set_option linter.unusedSimpArgs false
/-- The table's row i; where its section begins; the section. -/
def rowL (b : List UInt8) (i : Nat) : List UInt8 := (b.drop (8 + 10 * i)).take 10
def ats (b : List UInt8) (m : Nat) : Nat → Nat
  | 0 => 8 + 10 * m
  | i + 1 => ats b m i + s_ (rowL b i)
def okr (b : List UInt8) (m i : Nat) : Prop := b_ (rowL b i) = ats b m i ∧ s_ (rowL b i) ≤ (b.length - 4) - ats b m i
def secR (b : List UInt8) (m i : Nat) : Sec := (k_ (rowL b i), n_ (rowL b i), ((body b).drop (ats b m i)).take (s_ (rowL b i)))
def secsR (b : List UInt8) (m k : Nat) : List Sec := (List.range k).map (secR b m)
theorem secsR_len (b : List UInt8) (m k : Nat) : (secsR b m k).length = k := by simp [secsR]
theorem secsR_succ (b : List UInt8) (m k : Nat) : secsR b m (k + 1) = secsR b m k ++ [secR b m k] := by simp [secsR, List.range_succ]
theorem row_take (t : List UInt8) : k_ (t.take 10) = k_ t ∧ n_ (t.take 10) = n_ t ∧ b_ (t.take 10) = b_ t ∧ s_ (t.take 10) = s_ t := by
  refine ⟨?_, ?_, ?_, ?_⟩
  · unfold k_; rw [List.getD_eq_getElem?_getD, List.getD_eq_getElem?_getD, List.getElem?_take, if_pos (by decide)]
  · unfold n_; rw [List.getD_eq_getElem?_getD, List.getD_eq_getElem?_getD, List.getElem?_take, if_pos (by decide)]
  · unfold b_; rw [List.drop_take, List.take_take]; rfl
  · unfold s_; rw [List.drop_take, List.take_take]; rfl
theorem tab_row (b : List UInt8) (m i : Nat) (hi : i < m) (hb : 8 + 10 * m ≤ (body b).length) : ((((body b).drop 8).take (10 * m)).drop (10 * i)).take 10 = rowL b i := by
  unfold rowL
  rw [List.drop_take, List.take_take, Nat.min_eq_left (by omega), List.drop_drop]
  unfold body at hb ⊢
  rw [List.length_take] at hb
  rw [List.drop_take, List.take_take, Nat.min_eq_left (by omega), Nat.add_comm]
open Classical in
/-- The table's walk from row i on. -/
theorem tabD_ref (b : List UInt8) (m : Nat) (hb : 8 + 10 * m ≤ (body b).length) : ∀ (mm i : Nat) (last : Int), i + mm = m →
    tabD (body b) mm i last (ats b m i) ((((body b).drop 8).take (10 * m)).drop (10 * i)) =
      if (∀ j, i ≤ j → j < m → okr b m j) ∧ ats b m m = b.length - 4 ∧ rowsOk i last ((List.range' i mm).map (secR b m)) = true then some ((List.range' i mm).map (secR b m)) else none
  | 0, i, last, h => by
    obtain rfl : i = m := by omega
    have e : (body b).length = b.length - 4 := by unfold body; rw [List.length_take]; omega
    rw [tabD, e]
    by_cases h1 : ats b i i = b.length - 4
    · rw [if_pos h1, if_pos ⟨fun j h2 h3 => by omega, h1, rfl⟩]; rfl
    · rw [if_neg h1, if_neg (fun h => h1 h.2.1)]
  | mm + 1, i, last, h => by
    have e : (body b).length = b.length - 4 := by unfold body; rw [List.length_take]; omega
    have ht := tab_row b m i (by omega) hb
    obtain ⟨q1, q2, q3, q4⟩ := row_take ((((body b).drop 8).take (10 * m)).drop (10 * i))
    rw [ht] at q1 q2 q3 q4
    have ih := tabD_ref b m hb mm (i + 1) (nxt (k_ (rowL b i)) (n_ (rowL b i)) last) (by omega)
    rw [tabD, ← q1, ← q2, ← q3, ← q4, e]
    have hd : ((((body b).drop 8).take (10 * m)).drop (10 * i)).drop 10 = (((body b).drop 8).take (10 * m)).drop (10 * (i + 1)) := by rw [List.drop_drop]; congr 1
    rw [hd]
    have hr : (List.range' i (mm + 1)).map (secR b m) = secR b m i :: (List.range' (i + 1) mm).map (secR b m) := by rw [List.range'_succ, List.map_cons]
    rw [hr]
    have hro : rowsOk i last (secR b m i :: (List.range' (i + 1) mm).map (secR b m)) = (rowOk i (k_ (rowL b i)) (n_ (rowL b i)) last && rowsOk (i + 1) (nxt (k_ (rowL b i)) (n_ (rowL b i)) last) ((List.range' (i + 1) mm).map (secR b m))) := rfl
    rw [hro]
    by_cases h1 : rowOk i (k_ (rowL b i)) (n_ (rowL b i)) last = true ∧ b_ (rowL b i) = ats b m i ∧ s_ (rowL b i) ≤ b.length - 4 - ats b m i
    · rw [if_pos h1]
      have ha : ats b m i + s_ (rowL b i) = ats b m (i + 1) := rfl
      rw [ha, ih, h1.1, Bool.true_and]
      by_cases h2 : (∀ j, i + 1 ≤ j → j < m → okr b m j) ∧ ats b m m = b.length - 4 ∧ rowsOk (i + 1) (nxt (k_ (rowL b i)) (n_ (rowL b i)) last) ((List.range' (i + 1) mm).map (secR b m)) = true
      · have hall : ∀ j, i ≤ j → j < m → okr b m j := fun j h3 h4 => by
          by_cases hj : j = i
          · rw [hj]; exact h1.2
          · exact h2.1 j (by omega) h4
        rw [if_pos h2, if_pos ⟨hall, h2.2.1, h2.2.2⟩]
        rfl
      · rw [if_neg h2, if_neg (fun h => h2 ⟨fun j h3 h4 => h.1 j (by omega) h4, h.2.1, h.2.2⟩)]
        rfl
    · rw [if_neg h1, if_neg (fun h => h1 ⟨by have := h.2.2; rw [Bool.and_eq_true] at this; exact this.1, h.1 i (Nat.le_refl _) (by omega)⟩)]
def prv (p : Int) (r : List Sec) : Nat → Int
  | 0 => p
  | j + 1 => ((sAt r j).2.1.toNat : Int)
theorem rows3 : ∀ (r : List Sec) (i : Nat) (p : Int), 2 ≤ i → (rowsOk i p r = true ↔ ∀ j, j < r.length → (sAt r j).1 = 3 ∧ prv p r j < ((sAt r j).2.1.toNat : Int) ∧ (sAt r j).2.1.toNat < 16)
  | [], i, p, hi => by simp [rowsOk]
  | s :: l, i, p, hi => by
    have hro : rowOk i s.1 s.2.1 p = decide (s.1 = 3 ∧ p < (s.2.1.toNat : Int) ∧ s.2.1.toNat < 16) := by
      unfold rowOk; rw [if_neg (by omega), if_neg (by omega)]
    have ih := rows3 l (i + 1) (nxt s.1 s.2.1 p) (by omega)
    rw [rowsOk, Bool.and_eq_true, hro, decide_eq_true_eq, ih]
    have a0 : sAt (s :: l) 0 = s := rfl
    have aj : ∀ j, sAt (s :: l) (j + 1) = sAt l j := fun j => by unfold sAt; rfl
    constructor
    · rintro ⟨h1, h2⟩ j hj
      match j, hj with
      | 0, _ => rw [a0]; exact h1
      | j + 1, hj =>
        have h3 := h2 j (by simpa using hj)
        rw [aj]
        refine ⟨h3.1, ?_, h3.2.2⟩
        match j, h3 with
        | 0, h3 =>
          have : prv (nxt s.1 s.2.1 p) l 0 = (s.2.1.toNat : Int) := by show nxt s.1 s.2.1 p = _; unfold nxt; rw [if_pos h1.1]
          rw [this] at h3
          exact h3.2.1
        | j + 1, h3 => exact h3.2.1
    · intro h
      have h0 := h 0 (by simp)
      rw [a0] at h0
      refine ⟨h0, fun j hj => ?_⟩
      have h3 := h (j + 1) (by simpa using hj)
      rw [aj] at h3
      refine ⟨h3.1, ?_, h3.2.2⟩
      match j, h3 with
      | 0, h3 =>
        show nxt s.1 s.2.1 p < _
        unfold nxt
        rw [if_pos h0.1]
        exact h3.2.1
      | j + 1, h3 => exact h3.2.1
theorem u8_eq {a : UInt8} {n : Nat} (h : a.toNat = n) (hn : n < 256) : a = UInt8.ofNat n := by
  apply UInt8.toNat_inj.1
  rw [UInt8.toNat_ofNat']
  omega
theorem rt_rows (l : List Sec) (h2 : 2 ≤ l.length) : RT l = rowsOk 0 (-1) l := by
  match l, h2 with
  | x :: y :: r, _ =>
    have hb0 : badS (x :: y :: r) 0 = bad 0 x.1.toNat x.2.1.toNat x.2.1.toNat := rfl
    have hb1 : badS (x :: y :: r) 1 = bad 1 y.1.toNat y.2.1.toNat x.2.1.toNat := rfl
    have hb2 : badS (x :: y :: r) 2 = bad 2 (sAt r 0).1.toNat (sAt r 0).2.1.toNat y.2.1.toNat := rfl
    have hbj : ∀ j, badS (x :: y :: r) (j + 3) = bad (j + 3) (sAt r (j + 1)).1.toNat (sAt r (j + 1)).2.1.toNat (sAt r j).2.1.toNat := fun j => rfl
    have hr3 := rows3 r 2 (-1) (by omega)
    have e1 : rowsOk 0 (-1) (x :: y :: r) = (decide (x.1 = 1 ∧ x.2.1 = 0) && (rowOk 1 y.1 y.2.1 (nxt x.1 x.2.1 (-1)) && rowsOk 2 (nxt y.1 y.2.1 (nxt x.1 x.2.1 (-1))) r)) := rfl
    have e2 : rowOk 1 y.1 y.2.1 (nxt x.1 x.2.1 (-1)) = decide (y.1 = 2 ∧ y.2.1 = 0) := rfl
    rw [Bool.eq_iff_iff, e1, e2]
    unfold RT
    simp only [Bool.and_eq_true, decide_eq_true_eq, List.all_eq_true, List.mem_range, Bool.not_eq_true']
    constructor
    · rintro ⟨_, h⟩
      have g0 := h 0 (by simp)
      have g1 := h 1 (by simp)
      rw [hb0] at g0
      rw [hb1] at g1
      unfold bad at g0 g1
      rw [decide_eq_false_iff_not] at g0 g1
      simp only [show (0 : Nat) < 2 by decide, show (1 : Nat) < 2 by decide, if_true, true_and] at g0 g1
      have x1 : x.1 = 1 := u8_eq (n := 1) (by omega) (by decide)
      have x2 : x.2.1 = 0 := u8_eq (n := 0) (by omega) (by decide)
      have y1 : y.1 = 2 := u8_eq (n := 2) (by omega) (by decide)
      have y2 : y.2.1 = 0 := u8_eq (n := 0) (by omega) (by decide)
      refine ⟨⟨x1, x2⟩, ⟨y1, y2⟩, ?_⟩
      have hn : nxt y.1 y.2.1 (nxt x.1 x.2.1 (-1)) = -1 := by rw [x1, y1]; rfl
      rw [hn, hr3]
      intro j hj
      match j, hj with
      | 0, hj =>
        have g := h 2 (by simp; omega)
        rw [hb2] at g
        unfold bad at g
        rw [decide_eq_false_iff_not] at g
        simp only [show ¬ (2 : Nat) < 2 by decide, if_false, false_and, false_or] at g
        exact ⟨u8_eq (n := 3) (by omega) (by decide), by show (-1 : Int) < _; omega, by omega⟩
      | j + 1, hj =>
        have g := h (j + 3) (by simp; omega)
        rw [hbj] at g
        unfold bad at g
        rw [decide_eq_false_iff_not] at g
        simp only [show ¬ j + 3 < 2 by omega, if_false, false_and, false_or] at g
        refine ⟨u8_eq (n := 3) (by omega) (by decide), ?_, by omega⟩
        show (((sAt r j).2.1.toNat : Nat) : Int) < _
        omega
    · rintro ⟨⟨x1, x2⟩, ⟨y1, y2⟩, h⟩
      have hn : nxt y.1 y.2.1 (nxt x.1 x.2.1 (-1)) = -1 := by rw [x1, y1]; rfl
      rw [hn, hr3] at h
      refine ⟨by simp, fun k hk => ?_⟩
      match k, hk with
      | 0, _ => rw [hb0, x1, x2]; rfl
      | 1, _ => rw [hb1, y1, y2, x2]; rfl
      | 2, hk =>
        obtain ⟨h1, h2, h3⟩ := h 0 (by simp at hk; omega)
        rw [hb2, h1]
        unfold bad
        rw [decide_eq_false_iff_not]
        rintro (g | g | g | g)
        · exact g rfl
        · omega
        · omega
        · omega
      | k + 3, hk =>
        obtain ⟨h1, h2, h3⟩ := h (k + 1) (by simp at hk; omega)
        have h2' : (((sAt r k).2.1.toNat : Nat) : Int) < ((sAt r (k + 1)).2.1.toNat : Int) := h2
        rw [hbj, h1]
        unfold bad
        rw [decide_eq_false_iff_not]
        rintro (g | g | g | g)
        · rw [if_neg (by omega)] at g; exact g rfl
        · omega
        · omega
        · omega
theorem range_map (b : List UInt8) (m : Nat) : (List.range' 0 m).map (secR b m) = secsR b m m := by unfold secsR; rw [List.range_eq_range']
open Classical in
/-- The document's table, by the reference's steps. -/
theorem table_ref (b : List UInt8) (m : Nat) (h1 : 2 ≤ m) (h2 : m ≤ 18) (hb : 8 + 10 * m ≤ (body b).length) :
    table (body b) m = if (∀ j, j < m → okr b m j) ∧ ats b m m = b.length - 4 ∧ RT (secsR b m m) = true then some (secsR b m m) else none := by
  unfold table
  rw [if_neg (by omega)]
  have := tabD_ref b m hb m 0 (-1) (by omega)
  rw [Nat.mul_zero, List.drop_zero, range_map] at this
  rw [show (8 + 10 * m) = ats b m 0 from rfl, this, rt_rows _ (by rw [secsR_len]; exact h1)]
  by_cases h : (∀ j, j < m → okr b m j) ∧ ats b m m = b.length - 4 ∧ rowsOk 0 (-1) (secsR b m m) = true
  · rw [if_pos h, if_pos ⟨fun j _ hj => h.1 j hj, h.2⟩]
  · rw [if_neg h, if_neg (fun g => h ⟨fun j hj => g.1 j (Nat.zero_le _) hj, g.2⟩)]
theorem secs_may (e : Nat) (l : List Sec) (h2 : 2 ≤ l.length) (h : rowsOk 0 (-1) l = true) : secsOk l = (decide ((s1 l).length % 6 = 0) && may (cartOf e l)) := by
  obtain ⟨d, f, r, rfl, hr⟩ := rows_front h2 h
  obtain ⟨r1, r2⟩ := rows_back r 2 (-1) (by omega) hr
  have hdt : bankG (-1) (bks r) = dts r := by
    rw [Bool.eq_iff_iff]
    refine ⟨fun g => ?_, r2⟩
    have := bank_dts (bks r) (-1) g
    rwa [r1] at this
  have e0 : s0 ((1, 0, d) :: (2, 0, f) :: r) = d := rfl
  have e1 : s1 ((1, 0, d) :: (2, 0, f) :: r) = f := rfl
  unfold secsOk may cartOf
  rw [e0, e1]
  show (codeB d && esOk f && dts r) = (decide (f.length % 6 = 0) && (codeB d && effsB (effD (f.length / 6) f) && bankG (-1) (bks r)))
  rw [hdt]
  unfold esOk effsB
  rw [effD_len]
  rw [Bool.eq_iff_iff]
  simp only [Bool.and_eq_true, decide_eq_true_eq]
  constructor
  · rintro ⟨⟨a1, ⟨a2, a3⟩, a4, a5⟩, a6⟩
    exact ⟨a2, ⟨a1, a4, a5⟩, a6⟩
  · rintro ⟨a2, ⟨a1, a4, a5⟩, a6⟩
    exact ⟨⟨a1, ⟨a2, by omega⟩, a4, a5⟩, a6⟩
end Go.Proofs.YtmlpijjjkpnioaaDoor.C
