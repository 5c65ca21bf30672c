import Derived.Test.YtmlpijjjkpnioaaDoorKBackMath
/-! Cartridges, as lists: what may be, the bytes, and back. -/
namespace Go.Proofs.YtmlpijjjkpnioaaDoor.C
open Go.Proofs.YtmlpijjjkpnioaaDoor.K
set_option linter.unusedVariables false
set_option linter.unusedSimpArgs false

abbrev Ef := Nat × Int × Int
abbrev Bk := Int × List UInt8
abbrev Sec := UInt8 × UInt8 × List UInt8
structure Ct where
  code : List UInt8
  entry : Nat
  effs : List Ef
  banks : List Bk
theorem Ct.ext' {a b : Ct} (h1 : a.code = b.code) (h2 : a.entry = b.entry) (h3 : a.effs = b.effs) (h4 : a.banks = b.banks) : a = b := by
  cases a; cases b; simp at h1 h2 h3 h4; subst h1 h2 h3 h4; rfl
def ct0 : Ct := ⟨[], 0, [], []⟩

def hgt (x : Int) : Bool := decide (0 ≤ x ∧ x ≤ 256)
def effG : Int → List Ef → Bool
  | _, [] => true
  | p, x :: l => (decide (p < (x.1 : Int)) && hgt x.2.1 && hgt x.2.2) && effG x.1 l
def codeB (l : List UInt8) : Bool := decide (l.length % 2 = 0 ∧ l.length ≤ 16384)
def effsB (l : List Ef) : Bool := decide (l.length ≤ 8192) && effG (-1) l
def datOk (l : List UInt8) : Bool := decide (l.length ≤ 16384)
def bankG : Int → List Bk → Bool
  | _, [] => true
  | p, x :: l => (decide (p < x.1 ∧ x.1 < 16) && datOk x.2) && bankG x.1 l
/-- 7.1. -/
def may (c : Ct) : Bool := codeB c.code && effsB c.effs && bankG (-1) c.banks

def effB : List Ef → List UInt8
  | [] => []
  | x :: l => low 2 x.1 ++ low 2 x.2.1.toNat ++ low 2 x.2.2.toNat ++ effB l
def tabB : Nat → List Sec → List UInt8
  | _, [] => []
  | at_, s :: l => s.1 :: s.2.1 :: (low 4 at_ ++ low 4 s.2.2.length ++ tabB (at_ + s.2.2.length) l)
def datB : List Sec → List UInt8
  | [] => []
  | s :: l => s.2.2 ++ datB l
def bsec (b : Bk) : Sec := (3, by8 b.1.toNat, b.2)
def secs (c : Ct) : List Sec := (1, 0, c.code) :: (2, 0, effB c.effs) :: c.banks.map bsec
def magic : List UInt8 := [87, 73, 83, 80, 1]
def bodyB (entry : Nat) (l : List Sec) : List UInt8 := magic ++ [by8 l.length] ++ low 2 entry ++ tabB (8 + 10 * l.length) l ++ datB l
def layB (c : Ct) : List UInt8 := bodyB c.entry (secs c)
def encB (c : Ct) : List UInt8 := layB c ++ low 4 (crc (layB c))

def rowOk (i : Nat) (kind number : UInt8) (last : Int) : Bool :=
  if i = 0 then decide (kind = 1 ∧ number = 0) else if i = 1 then decide (kind = 2 ∧ number = 0) else decide (kind = 3 ∧ last < (number.toNat : Int) ∧ number.toNat < 16)
def k_ (t : List UInt8) : UInt8 := t.getD 0 0
def n_ (t : List UInt8) : UInt8 := t.getD 1 0
def b_ (t : List UInt8) : Nat := numL ((t.drop 2).take 4)
def s_ (t : List UInt8) : Nat := numL ((t.drop 6).take 4)
def nxt (kind number : UInt8) (last : Int) : Int := if kind = 3 then (number.toNat : Int) else last
def tabD (body : List UInt8) : Nat → Nat → Int → Nat → List UInt8 → Option (List Sec)
  | 0, _, _, at_, _ => if at_ = body.length then some [] else none
  | m + 1, i, last, at_, t =>
    if rowOk i (k_ t) (n_ t) last = true ∧ b_ t = at_ ∧ s_ t ≤ body.length - at_ then
      (tabD body m (i + 1) (nxt (k_ t) (n_ t) last) (at_ + s_ t) (t.drop 10)).map ((k_ t, n_ t, (body.drop at_).take (s_ t)) :: ·)
    else none
def effD : Nat → List UInt8 → List Ef
  | 0, _ => []
  | n + 1, b => (numL (b.take 2), (numL ((b.drop 2).take 2) : Int), (numL ((b.drop 4).take 2) : Int)) :: effD n (b.drop 6)
def esOk (b : List UInt8) : Bool := decide (b.length % 6 = 0 ∧ b.length ≤ 49152) && effsB (effD (b.length / 6) b)
def bks (l : List Sec) : List Bk := l.map fun s => ((s.2.1.toNat : Int), s.2.2)
def dts (l : List Sec) : Bool := l.all fun s => datOk s.2.2
def s0 (l : List Sec) : List UInt8 := (l.getD 0 (0, 0, [])).2.2
def s1 (l : List Sec) : List UInt8 := (l.getD 1 (0, 0, [])).2.2
def secsOk (l : List Sec) : Bool := codeB (s0 l) && esOk (s1 l) && dts (l.drop 2)
def cartOf (entry : Nat) (l : List Sec) : Ct := ⟨s0 l, entry, effD ((s1 l).length / 6) (s1 l), bks (l.drop 2)⟩
def table (body : List UInt8) (many : Nat) : Option (List Sec) :=
  if many < 2 ∨ 18 < many ∨ body.length < 8 + 10 * many then none else tabD body many 0 (-1) (8 + 10 * many) ((body.drop 8).take (10 * many))
def sumOk (b : List UInt8) : Bool := decide (12 ≤ b.length ∧ b.length ≤ 524288 ∧ numL (b.drop (b.length - 4)) = crc (b.take (b.length - 4)))
def many (b : List UInt8) : Nat := (b.getD 5 0).toNat
def entryOf (b : List UInt8) : Nat := numL ((b.drop 6).take 2)
def body (b : List UInt8) : List UInt8 := b.take (b.length - 4)
/-- 7.3: the error and the cartridge. -/
def decB (b : List UInt8) : Nat × Ct :=
  if b.take 5 ≠ magic then (70, ct0)
  else if sumOk b = false then (71, ct0)
  else match table (body b) (many b) with
    | none => (72, ct0)
    | some l => if secsOk l then (0, cartOf (entryOf b) l) else (73, ct0)

-- what a cartridge's numbers are
structure Fit (c : Ct) : Prop where
  entry : c.entry < 65536
  effs : ∀ x ∈ c.effs, x.1 < 65536

theorem effB_len : ∀ l : List Ef, (effB l).length = 6 * l.length
  | [] => rfl
  | x :: l => by simp [effB, low_len, effB_len l]; omega
theorem effD_len : ∀ (n : Nat) (b : List UInt8), (effD n b).length = n
  | 0, _ => rfl
  | n + 1, b => by simp [effD, effD_len n]
theorem low2_front (x : Nat) (r : List UInt8) : (low 2 x ++ r).take 2 = low 2 x := by rw [List.take_append_of_le_length (by rw [low_len]; exact Nat.le_refl _)]; rw [List.take_of_length_le (by rw [low_len]; exact Nat.le_refl _)]
theorem low_drop (k x : Nat) (r : List UInt8) : (low k x ++ r).drop k = r := by
  have := low_len k x
  rw [List.drop_append_of_le_length (by omega), List.drop_of_length_le (by omega)]; rfl
theorem low_take (k x : Nat) (r : List UInt8) : (low k x ++ r).take k = low k x := by
  have := low_len k x
  rw [List.take_append_of_le_length (by omega), List.take_of_length_le (by omega)]
theorem hgt_iff (x : Int) : hgt x = true ↔ 0 ≤ x ∧ x ≤ 256 := by simp [hgt]
theorem effD_B : ∀ (l : List Ef) (p : Int) (r : List UInt8), effG p l = true → (∀ x ∈ l, x.1 < 65536) → effD l.length (effB l ++ r) = l
  | [], _, _, _, _ => rfl
  | x :: l, p, r, h, hx => by
    simp only [effG, Bool.and_eq_true, hgt_iff, decide_eq_true_eq] at h
    have h0 := hx x (by simp)
    have ih := effD_B l x.1 r h.2 (fun y hy => hx y (by simp [hy]))
    obtain ⟨a, i, o⟩ := x
    simp only at *
    have e1 : (effB ((a, i, o) :: l) ++ r) = low 2 a ++ (low 2 i.toNat ++ (low 2 o.toNat ++ (effB l ++ r))) := by simp [effB]
    have d2 : (effB ((a, i, o) :: l) ++ r).drop 2 = low 2 i.toNat ++ (low 2 o.toNat ++ (effB l ++ r)) := by rw [e1, low_drop]
    have d4 : (effB ((a, i, o) :: l) ++ r).drop 4 = low 2 o.toNat ++ (effB l ++ r) := by
      rw [show 4 = 2 + 2 from rfl, ← List.drop_drop, d2, low_drop]
    have d6 : (effB ((a, i, o) :: l) ++ r).drop 6 = effB l ++ r := by
      rw [show 6 = 4 + 2 from rfl, ← List.drop_drop, d4, low_drop]
    simp only [List.length_cons, effD]
    rw [d2, d4, d6, ih, e1, low_take, low_take, low_take, numL_low, numL_low, numL_low]
    have a1 : a % 256 ^ 2 = a := Nat.mod_eq_of_lt (by omega)
    have a2 : i.toNat % 256 ^ 2 = i.toNat := Nat.mod_eq_of_lt (by omega)
    have a3 : o.toNat % 256 ^ 2 = o.toNat := Nat.mod_eq_of_lt (by omega)
    rw [a1, a2, a3, Int.toNat_of_nonneg h.1.1.2.1, Int.toNat_of_nonneg h.1.2.1]
theorem take_len (n : Nat) (b : List UInt8) (h : n ≤ b.length) : (b.take n).length = n := by simp; omega
theorem low_of (n : Nat) (b : List UInt8) (h : n ≤ b.length) : low n (numL (b.take n)) = b.take n := by
  have := low_numL (b.take n); rwa [take_len n b h] at this
theorem effB_D : ∀ (n : Nat) (b : List UInt8), b.length = 6 * n → effB (effD n b) = b
  | 0, b, h => by simp [effD, effB]; exact List.eq_nil_of_length_eq_zero (by omega)
  | n + 1, b, h => by
    simp only [effD, effB, Int.toNat_natCast]
    rw [effB_D n (b.drop 6) (by simp; omega), low_of 2 b (by omega), low_of 2 (b.drop 2) (by simp; omega), low_of 2 (b.drop 4) (by simp; omega)]
    have e1 : b.drop 6 = (b.drop 4).drop 2 := by rw [List.drop_drop]
    have e2 : b.drop 4 = (b.drop 2).drop 2 := by rw [List.drop_drop]
    rw [e1, List.append_assoc, List.append_assoc, List.take_append_drop, e2, List.take_append_drop, List.take_append_drop]
theorem effD_fit : ∀ (n : Nat) (b : List UInt8), ∀ x ∈ effD n b, x.1 < 65536
  | 0, b, x, h => by simp [effD] at h
  | n + 1, b, x, h => by
    simp only [effD, List.mem_cons] at h
    rcases h with rfl | h
    · have := numL_lt (b.take 2)
      have h2 : 2 ^ (8 * (b.take 2).length) ≤ 2 ^ 16 := Nat.pow_le_pow_right (by decide) (by simp; omega)
      simp only; omega
    · exact effD_fit n _ x h

theorem tabB_len : ∀ (l : List Sec) (a : Nat), (tabB a l).length = 10 * l.length
  | [], _ => rfl
  | s :: l, a => by simp [tabB, low_len, tabB_len l]; omega
def rowsOk : Nat → Int → List Sec → Bool
  | _, _, [] => true
  | i, last, s :: l => rowOk i s.1 s.2.1 last && rowsOk (i + 1) (nxt s.1 s.2.1 last) l
theorem tab_front (s : Sec) (l : List Sec) (a : Nat) (r : List UInt8) : k_ (tabB a (s :: l) ++ r) = s.1 ∧ n_ (tabB a (s :: l) ++ r) = s.2.1 ∧ b_ (tabB a (s :: l) ++ r) = a % 4294967296 ∧ s_ (tabB a (s :: l) ++ r) = s.2.2.length % 4294967296 ∧ (tabB a (s :: l) ++ r).drop 10 = tabB (a + s.2.2.length) l ++ r := by
  have e : tabB a (s :: l) ++ r = s.1 :: s.2.1 :: (low 4 a ++ (low 4 s.2.2.length ++ (tabB (a + s.2.2.length) l ++ r))) := by simp [tabB]
  have d2 : (tabB a (s :: l) ++ r).drop 2 = low 4 a ++ (low 4 s.2.2.length ++ (tabB (a + s.2.2.length) l ++ r)) := by rw [e]; rfl
  have d6 : (tabB a (s :: l) ++ r).drop 6 = low 4 s.2.2.length ++ (tabB (a + s.2.2.length) l ++ r) := by rw [show 6 = 2 + 4 from rfl, ← List.drop_drop, d2, low_drop]
  have d10 : (tabB a (s :: l) ++ r).drop 10 = tabB (a + s.2.2.length) l ++ r := by rw [show 10 = 6 + 4 from rfl, ← List.drop_drop, d6, low_drop]
  refine ⟨by rw [e]; rfl, by rw [e]; rfl, ?_, ?_, d10⟩
  · unfold b_; rw [d2, low_take, numL_low]
  · unfold s_; rw [d6, low_take, numL_low]
theorem tabD_B (body : List UInt8) (hb : body.length < 4294967296) : ∀ (l : List Sec) (i : Nat) (last : Int) (a : Nat) (r : List UInt8), rowsOk i last l = true → body.drop a = datB l → a + (datB l).length = body.length → tabD body l.length i last a (tabB a l ++ r) = some l
  | [], i, last, a, r, _, h2, h3 => by simp [tabD, datB] at h3 ⊢; exact h3
  | s :: l, i, last, a, r, h1, h2, h3 => by
    simp only [rowsOk, Bool.and_eq_true] at h1
    simp only [datB, List.length_append] at h3
    obtain ⟨q1, q2, q3, q4, q5⟩ := tab_front s l a r
    have m1 : a % 4294967296 = a := Nat.mod_eq_of_lt (by omega)
    have m2 : s.2.2.length % 4294967296 = s.2.2.length := Nat.mod_eq_of_lt (by omega)
    have ht : (body.drop a).take s.2.2.length = s.2.2 := by rw [h2]; simp [datB]
    have hd : body.drop (a + s.2.2.length) = datB l := by rw [← List.drop_drop, h2]; simp [datB]
    have ih := tabD_B body hb l (i + 1) (nxt s.1 s.2.1 last) (a + s.2.2.length) r h1.2 hd (by omega)
    simp only [List.length_cons, tabD, q1, q2, q3, q4, q5, m1, m2]
    rw [if_pos ⟨h1.1, by trivial, by omega⟩, ih, ht]
    rfl
theorem take_app (x y : List UInt8) : (x ++ y).take x.length = x := by simp
theorem cons2 (t : List UInt8) (h : 2 ≤ t.length) : t = k_ t :: n_ t :: t.drop 2 := by
  match t, h with
  | a :: b :: r, _ => rfl
theorem tabB_D (body : List UInt8) : ∀ (m i : Nat) (last : Int) (a : Nat) (t : List UInt8) (l : List Sec), t.length = 10 * m → a ≤ body.length → tabD body m i last a t = some l → l.length = m ∧ t = tabB a l ∧ body.drop a = datB l ∧ rowsOk i last l = true
  | 0, i, last, a, t, l, ht, ha, h => by
    simp only [tabD] at h
    split at h
    · next e =>
      cases h
      exact ⟨rfl, List.eq_nil_of_length_eq_zero (by omega), by simp [datB, e], rfl⟩
    · cases h
  | m + 1, i, last, a, t, l, ht, ha, h => by
    simp only [tabD] at h
    split at h
    · next c =>
      obtain ⟨c1, c2, c3⟩ := c
      rw [Option.map_eq_some_iff] at h
      obtain ⟨l', h1, rfl⟩ := h
      obtain ⟨e1, e2, e3, e4⟩ := tabB_D body m (i + 1) _ (a + s_ t) (t.drop 10) l' (by simp; omega) (by omega) h1
      have hsz : ((body.drop a).take (s_ t)).length = s_ t := by simp; omega
      refine ⟨by simp [e1], ?_, ?_, ?_⟩
      · simp only [tabB, hsz]
        rw [← e2]
        have w1 : low 4 a = (t.drop 2).take 4 := by rw [← c2]; exact low_of 4 (t.drop 2) (by simp; omega)
        have w2 : low 4 (s_ t) = (t.drop 6).take 4 := low_of 4 (t.drop 6) (by simp; omega)
        rw [w1, w2]
        have w3 : t.drop 10 = (t.drop 6).drop 4 := by rw [List.drop_drop]
        have w4 : t.drop 6 = (t.drop 2).drop 4 := by rw [List.drop_drop]
        rw [w3, List.append_assoc, List.take_append_drop, w4, List.take_append_drop]
        exact cons2 t (by omega)
      · simp only [datB]
        rw [← e3, ← List.drop_drop, List.take_append_drop]
      · simp only [rowsOk, Bool.and_eq_true]
        exact ⟨c1, e4⟩
    · cases h
end Go.Proofs.YtmlpijjjkpnioaaDoor.C
