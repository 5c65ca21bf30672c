/-! Screens: texts, runs, what differs; pure. -/
namespace Go.Proofs.YtlljelfplffglabDoor.H
set_option linter.unusedVariables false

/-- A digit's sign. -/
def dg (n : Nat) : UInt8 := if n < 10 then UInt8.ofNat (48 + n) else UInt8.ofNat (87 + n)
def dig (c : UInt8) : Nat := if 48 ≤ c.toNat ∧ c.toNat ≤ 57 then c.toNat - 48 else if 97 ≤ c.toNat ∧ c.toNat ≤ 102 then c.toNat - 87 else 0
theorem dig_lt (c : UInt8) : dig c < 16 := by unfold dig; split <;> (try split) <;> omega
theorem dig_dg : ∀ n, n < 16 → dig (dg n) = n := by decide
theorem dig_pt : dig 46 = 0 := by decide
/-- A pixel's two signs. -/
def px (b : UInt8) : List UInt8 := if b.toNat = 0 then [46, 46] else [dg (b.toNat / 16), dg (b.toNat % 16)]
theorem px_len (b : UInt8) : (px b).length = 2 := by unfold px; split <;> rfl
theorem px_dig (b : UInt8) : ∃ x y, px b = [x, y] ∧ 16 * dig x + dig y = b.toNat := by
  unfold px
  by_cases h : b.toNat = 0
  · exact ⟨46, 46, by simp [h], by rw [h]; rfl⟩
  · refine ⟨dg (b.toNat / 16), dg (b.toNat % 16), by simp only [h, if_false], ?_⟩
    have := b.toNat_lt
    rw [dig_dg _ (by omega), dig_dg _ (by omega)]
    omega
def nl (k : Nat) : List UInt8 := if k % 64 = 63 then [10] else []
theorem nl_len (k : Nat) : (nl k).length = (k + 1) / 64 - k / 64 := by unfold nl; split <;> simp <;> omega
/-- The text of the first k pixels. -/
def artTo (s : List UInt8) : Nat → List UInt8
  | 0 => []
  | k + 1 => artTo s k ++ px (s.getD k 0) ++ nl k
def art (s : List UInt8) : List UInt8 := artTo s 3072
theorem artTo_len (s : List UInt8) : ∀ k, (artTo s k).length = 2 * k + k / 64
  | 0 => rfl
  | k + 1 => by rw [artTo, List.length_append, List.length_append, artTo_len s k, px_len, nl_len]; omega
theorem art_len (s : List UInt8) : (art s).length = 6192 := by rw [art, artTo_len]
theorem artTo_pre (s : List UInt8) (k : Nat) : ∀ d, ∃ t, artTo s (k + d) = artTo s k ++ t
  | 0 => ⟨[], by simp⟩
  | d + 1 => by
    obtain ⟨t, h⟩ := artTo_pre s k d
    exact ⟨t ++ px (s.getD (k + d) 0) ++ nl (k + d), by rw [← Nat.add_assoc, artTo, h]; simp [List.append_assoc]⟩
theorem artTo_at (s : List UInt8) (k n : Nat) (h : k < n) (j : Nat) (hj : j < 2) : (artTo s n)[2 * k + k / 64 + j]? = (px (s.getD k 0))[j]? := by
  obtain ⟨t, ht⟩ := artTo_pre s (k + 1) (n - (k + 1))
  rw [show k + 1 + (n - (k + 1)) = n by omega] at ht
  have hl := artTo_len s k
  have hp := px_len (s.getD k 0)
  rw [ht, artTo, List.append_assoc, List.append_assoc, List.getElem?_append_right (by omega), hl, show 2 * k + k / 64 + j - (2 * k + k / 64) = j by omega, List.getElem?_append_left (by omega)]
theorem artTo_nl (s : List UInt8) (k n : Nat) (h : k < n) (hk : k % 64 = 63) : (artTo s n)[2 * k + k / 64 + 2]? = some 10 := by
  obtain ⟨t, ht⟩ := artTo_pre s (k + 1) (n - (k + 1))
  rw [show k + 1 + (n - (k + 1)) = n by omega] at ht
  have hl := artTo_len s k
  have hp := px_len (s.getD k 0)
  rw [ht, artTo, List.append_assoc, List.append_assoc, List.getElem?_append_right (by omega), hl, show 2 * k + k / 64 + 2 - (2 * k + k / 64) = 2 by omega, List.getElem?_append_right (by omega), hp]
  simp [nl, hk]
/-- The pixel that a text has at a place. -/
def rdAt (a : List UInt8) (i : Nat) : UInt8 := UInt8.ofNat (16 * dig (a.getD (i / 64 * 129 + 2 * (i % 64)) 0) + dig (a.getD (i / 64 * 129 + 2 * (i % 64) + 1) 0))
def rdTo (a : List UInt8) : Nat → List UInt8
  | 0 => []
  | k + 1 => rdTo a k ++ [rdAt a k]
theorem rdTo_len (a : List UInt8) : ∀ k, (rdTo a k).length = k
  | 0 => rfl
  | k + 1 => by rw [rdTo, List.length_append, rdTo_len a k]; rfl
theorem rdTo_get (a : List UInt8) (i : Nat) : ∀ k, i < k → (rdTo a k)[i]? = some (rdAt a i)
  | 0, h => by omega
  | k + 1, h => by
    have hl := rdTo_len a k
    rw [rdTo]
    by_cases e : i < k
    · rw [List.getElem?_append_left (by omega)]; exact rdTo_get a i k e
    · obtain rfl : i = k := by omega
      rw [List.getElem?_append_right (by omega), hl]; simp
def rd (a : List UInt8) : List UInt8 := rdTo a 3072
theorem rd_len (a : List UInt8) : (rd a).length = 3072 := rdTo_len a 3072
theorem rdAt_art (s : List UInt8) (i : Nat) (hi : i < 3072) : rdAt (art s) i = s.getD i 0 := by
  obtain ⟨x, y, hp, hv⟩ := px_dig (s.getD i 0)
  have h0 := artTo_at s i 3072 hi 0 (by omega)
  have h1 := artTo_at s i 3072 hi 1 (by omega)
  rw [hp] at h0 h1
  unfold rdAt
  rw [show i / 64 * 129 + 2 * (i % 64) = 2 * i + i / 64 by omega]
  rw [List.getD_eq_getElem?_getD, List.getD_eq_getElem?_getD]
  have h0' : (art s)[2 * i + i / 64]? = some x := h0
  have h1' : (art s)[2 * i + i / 64 + 1]? = some y := h1
  rw [h0', h1']
  simp only [Option.getD_some]
  rw [hv]
  exact UInt8.ofNat_toNat
theorem rd_art (s : List UInt8) (h : s.length = 3072) : rd (art s) = s := by
  apply List.ext_getElem? 
  intro i
  by_cases hi : i < 3072
  · rw [rd, rdTo_get _ _ _ hi, rdAt_art s i hi, List.getD_eq_getElem?_getD, List.getElem?_eq_getElem (by omega)]; rfl
  · rw [List.getElem?_eq_none (by rw [rd_len]; omega), List.getElem?_eq_none (by omega)]

/-- How many of a list are p at its beginning, at most n. -/
def lk (p : UInt8) : Nat → List UInt8 → Nat
  | 0, _ => 0
  | _ + 1, [] => 0
  | n + 1, x :: l => if x = p then lk p n l + 1 else 0
theorem lk_le (p : UInt8) : ∀ n l, lk p n l ≤ n
  | 0, _ => Nat.le_refl _
  | _ + 1, [] => Nat.zero_le _
  | n + 1, x :: l => by rw [lk]; split; (have := lk_le p n l; omega); omega
theorem lk_len (p : UInt8) : ∀ n l, lk p n l ≤ l.length
  | 0, _ => Nat.zero_le _
  | _ + 1, [] => Nat.zero_le _
  | n + 1, x :: l => by rw [lk]; split; (have := lk_len p n l; simp; omega); omega
theorem lk_take (p : UInt8) : ∀ n l, l.take (lk p n l) = List.replicate (lk p n l) p
  | 0, _ => rfl
  | _ + 1, [] => rfl
  | n + 1, x :: l => by
    rw [lk]
    split
    · next h => rw [List.take_succ_cons, lk_take p n l, h, List.replicate_succ]
    · rfl
/-- The count goes on while the next one is p. -/
theorem lk_go (p : UInt8) : ∀ n l k, k ≤ lk p n l → (k < lk p n l ↔ k < n ∧ l[k]? = some p)
  | 0, l, k, h => by simp [lk]
  | n + 1, [], k, h => by simp [lk]
  | n + 1, x :: l, k, h => by
    rw [lk] at h ⊢
    by_cases e : x = p
    · rw [if_pos e] at h ⊢
      cases k with
      | zero => simp [e]
      | succ k => rw [List.getElem?_cons_succ, Nat.add_lt_add_iff_right, Nat.add_lt_add_iff_right]; exact lk_go p n l k (by omega)
    · rw [if_neg e] at h ⊢
      obtain rfl : k = 0 := by omega
      simp [e]
def pkF : Nat → List UInt8 → List UInt8
  | 0, _ => []
  | _ + 1, [] => []
  | f + 1, x :: l => UInt8.ofNat (lk x 255 l) :: x :: pkF f (l.drop (lk x 255 l))
theorem pkF_any : ∀ f g l, l.length ≤ f → l.length ≤ g → pkF f l = pkF g l
  | 0, 0, _, _, _ => rfl
  | 0, g + 1, l, h, _ => by obtain rfl : l = [] := List.eq_nil_of_length_eq_zero (by omega); rfl
  | f + 1, 0, l, _, h => by obtain rfl : l = [] := List.eq_nil_of_length_eq_zero (by omega); rfl
  | f + 1, g + 1, [], _, _ => rfl
  | f + 1, g + 1, x :: l, h, k => by
    simp at h k
    rw [pkF, pkF, pkF_any f g (l.drop (lk x 255 l)) (by simp; omega) (by simp; omega)]
/-- The runs of a list. -/
def pk (l : List UInt8) : List UInt8 := pkF l.length l
theorem pk_nil : pk [] = [] := rfl
theorem pk_cons (x : UInt8) (l : List UInt8) : pk (x :: l) = UInt8.ofNat (lk x 255 l) :: x :: pk (l.drop (lk x 255 l)) := by
  rw [pk, List.length_cons, pkF, pk, pkF_any l.length (l.drop (lk x 255 l)).length _ (by simp) (Nat.le_refl _)]
/-- The list of runs. -/
def up : List UInt8 → List UInt8
  | n :: p :: r => List.replicate (n.toNat + 1) p ++ up r
  | _ => []
theorem up_pkF : ∀ f l, l.length ≤ f → up (pkF f l) = l
  | 0, l, h => by obtain rfl : l = [] := List.eq_nil_of_length_eq_zero (by omega); rfl
  | f + 1, [], _ => rfl
  | f + 1, x :: l, h => by
    simp at h
    have hle := lk_le x 255 l
    rw [pkF, up, up_pkF f _ (by simp; omega), UInt8.toNat_ofNat_of_lt' (by show _ < 256; omega), List.replicate_succ, List.cons_append, ← lk_take, List.take_append_drop]
theorem up_pk (l : List UInt8) : up (pk l) = l := up_pkF _ l (Nat.le_refl _)
theorem pkF_most : ∀ f l, (pkF f l).length ≤ 2 * l.length
  | 0, l => by simp [pkF]
  | f + 1, [] => by simp [pkF]
  | f + 1, x :: l => by have := pkF_most f (l.drop (lk x 255 l)); simp [pkF] at this ⊢; omega
theorem pk_most (l : List UInt8) : (pk l).length ≤ 2 * l.length := pkF_most _ l
theorem up_most : ∀ (m : Nat) (l : List UInt8), l.length ≤ m → (up l).length ≤ 128 * l.length
  | 0, l, h => by obtain rfl : l = [] := List.eq_nil_of_length_eq_zero (by omega); simp [up]
  | m + 1, [], h => by simp [up]
  | m + 1, [_], h => by simp [up]
  | m + 1, n :: p :: r, h => by
    simp at h
    have := up_most m r (by omega)
    have := n.toNat_lt
    simp [up]; omega
theorem pk_least (l : List UInt8) : l.length ≤ 128 * (pk l).length := by
  have := up_most (pk l).length (pk l) (Nat.le_refl _)
  rwa [up_pk] at this
/-- The screen that these runs are of. -/
def un (b : List UInt8) : Option (List UInt8) := if (up b).length = 3072 ∧ pk (up b) = b then some (up b) else none
theorem un_pk (l : List UInt8) (h : l.length = 3072) : un (pk l) = some l := by unfold un; rw [up_pk, if_pos ⟨h, rfl⟩]

/-- A change. -/
structure Ch where
  x : Int
  y : Int
  o : UInt8
  n : UInt8
def dfTo (a b : List UInt8) : Nat → List Ch
  | 0 => []
  | k + 1 => dfTo a b k ++ (if a.getD k 0 = b.getD k 0 then [] else [⟨((k % 64 : Nat) : Int), ((k / 64 : Nat) : Int), a.getD k 0, b.getD k 0⟩])
def df (a b : List UInt8) : List Ch := dfTo a b 3072
theorem dfTo_len (a b : List UInt8) : ∀ k, (dfTo a b k).length ≤ k
  | 0 => Nat.le_refl _
  | k + 1 => by have := dfTo_len a b k; rw [dfTo, List.length_append]; split <;> simp <;> omega
def chk (s : List UInt8) (c : Ch) : Prop := 0 ≤ c.x ∧ c.x < 64 ∧ 0 ≤ c.y ∧ c.y < 48 ∧ s.getD (c.y * 64 + c.x).toNat 0 = c.o
def ap : List UInt8 → List Ch → Option (List UInt8)
  | s, [] => some s
  | s, c :: r => if 0 ≤ c.x ∧ c.x < 64 ∧ 0 ≤ c.y ∧ c.y < 48 ∧ s.getD (c.y * 64 + c.x).toNat 0 = c.o then ap (s.set (c.y * 64 + c.x).toNat c.n) r else none
theorem ap_append : ∀ (s : List UInt8) (c d : List Ch), ap s (c ++ d) = (ap s c).bind (fun t => ap t d)
  | s, [], d => rfl
  | s, c :: r, d => by
    simp only [List.cons_append, ap]
    split
    · exact ap_append _ r d
    · rfl
theorem ap_len : ∀ (s : List UInt8) (c : List Ch) (t : List UInt8), ap s c = some t → t.length = s.length
  | s, [], t, h => by simp [ap] at h; rw [h]
  | s, c :: r, t, h => by
    rw [ap] at h
    split at h
    · rw [ap_len _ r t h, List.length_set]
    · cases h
theorem take_set_drop (a b : List UInt8) (k : Nat) (ha : k < a.length) (hb : k < b.length) : (b.take k ++ a.drop k).set k (b.getD k 0) = b.take (k + 1) ++ a.drop (k + 1) := by
  rw [List.set_append_right _ _ (by simp; omega), List.length_take, Nat.min_eq_left (by omega), Nat.sub_self, List.drop_eq_getElem_cons ha, List.set_cons_zero, List.take_succ_eq_append_getElem hb, List.append_assoc]
  simp [hb]
theorem take_drop_same (a b : List UInt8) (k : Nat) (ha : k < a.length) (hb : k < b.length) (e : a.getD k 0 = b.getD k 0) : b.take k ++ a.drop k = b.take (k + 1) ++ a.drop (k + 1) := by
  have e' : a[k] = b[k] := by simpa [ha, hb] using e
  rw [List.drop_eq_getElem_cons ha, List.take_succ_eq_append_getElem hb, List.append_assoc, e']; rfl
theorem ap_dfTo (a b : List UInt8) (h : a.length = b.length) : ∀ k, k ≤ a.length → k ≤ 3072 → ap a (dfTo a b k) = some (b.take k ++ a.drop k)
  | 0, _, _ => by simp [dfTo, ap]
  | k + 1, hk, hm => by
    rw [dfTo, ap_append, ap_dfTo a b h k (by omega) (by omega), Option.bind_some]
    by_cases e : a.getD k 0 = b.getD k 0
    · rw [if_pos e, ap, take_drop_same a b k (by omega) (by omega) e]
    · rw [if_neg e, ap]
      have hi : (((k / 64 : Nat) : Int) * 64 + ((k % 64 : Nat) : Int)).toNat = k := by omega
      have hg : (b.take k ++ a.drop k).getD k 0 = a.getD k 0 := by
        rw [List.getD_eq_getElem?_getD, List.getElem?_append_right (by simp; omega), List.length_take, Nat.min_eq_left (by omega), Nat.sub_self, List.getElem?_drop, List.getD_eq_getElem?_getD]; simp
      rw [if_pos ⟨Int.natCast_nonneg _, by simp only; omega, Int.natCast_nonneg _, by simp only; omega, by simp only [hi]; exact hg⟩]
      simp only [hi]
      rw [ap, take_set_drop a b k (by omega) (by omega)]
theorem ap_df (a b : List UInt8) (ha : a.length = 3072) (hb : b.length = 3072) : ap a (df a b) = some b := by
  rw [df, ap_dfTo a b (by omega) 3072 (by omega) (by omega), List.take_of_length_le (by omega), List.drop_of_length_le (by omega), List.append_nil]
theorem df_self (a : List UInt8) : ∀ k, dfTo a a k = []
  | 0 => rfl
  | k + 1 => by rw [dfTo, df_self a k]; simp
def flip (c : Ch) : Ch := ⟨c.x, c.y, c.n, c.o⟩
theorem df_flip (a b : List UInt8) : ∀ k, dfTo b a k = (dfTo a b k).map flip
  | 0 => rfl
  | k + 1 => by
    rw [dfTo, dfTo, df_flip a b k, List.map_append]
    by_cases e : a.getD k 0 = b.getD k 0
    · rw [if_pos e, if_pos e.symm]; rfl
    · rw [if_neg e, if_neg (Ne.symm e)]; rfl
end Go.Proofs.YtlljelfplffglabDoor.H
