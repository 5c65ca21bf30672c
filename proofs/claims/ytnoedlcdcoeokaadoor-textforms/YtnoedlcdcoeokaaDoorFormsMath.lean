import Derived.Test.YtnoedlcdcoeokaaDoorCells
/-! Numerals made digit by digit, from the last one on. -/
namespace Go.Proofs.YtnoedlcdcoeokaaDoor
open Go.RowKit
set_option linter.unusedVariables false

theorem fold_some (b : Nat) (l : List UInt8) : ∀ a, l.foldl (fun o c => stepV b o (dig c.toNat)) (some a) = (val b l).map fun v => a * b ^ l.length + v := by
  induction l with
  | nil => intro a; simp [val]
  | cons c t ih =>
    intro a
    have e1 : val b (c :: t) = t.foldl (fun o c => stepV b o (dig c.toNat)) (stepV b (some 0) (dig c.toNat)) := rfl
    rw [List.foldl_cons, e1]
    unfold stepV
    by_cases h : dig c.toNat < b
    · simp only [h, if_true]
      have i1 := ih (a * b + dig c.toNat)
      have i2 := ih (0 * b + dig c.toNat)
      unfold stepV at i1 i2
      rw [i1, i2]
      cases val b t with
      | none => rfl
      | some v =>
        simp only [Option.map_some, List.length_cons, Nat.pow_succ]
        congr 1
        rw [Nat.add_mul, Nat.add_mul, Nat.zero_mul, Nat.zero_mul, Nat.mul_assoc, Nat.mul_comm b]
        omega
    · simp only [h, if_false]
      have := fold_none b t
      unfold stepV at this
      rw [this]; rfl
theorem val_cons (b d : Nat) (l : List UInt8) (v : Nat) (hd : d < b) (h16 : d < 16) (h : val b l = some v) : val b (hexd d :: l) = some (d * b ^ l.length + v) := by
  have e1 : val b (hexd d :: l) = l.foldl (fun o c => stepV b o (dig c.toNat)) (stepV b (some 0) (dig (hexd d).toNat)) := rfl
  rw [e1, dig_hexd d h16]
  have e2 : stepV b (some 0) d = some d := by unfold stepV; simp [hd]
  rw [e2, fold_some, h]; rfl
theorem val_spoil (b : Nat) (l : List UInt8) (c : UInt8) (hb : b ≤ 16) (hc : dig c.toNat = 99) : val b (l ++ [c]) = none := by
  rw [val_snoc, hc]; unfold stepV
  cases val b l with
  | none => rfl
  | some v => simp; omega
theorem pow_small (n : Nat) (h : 2 ^ n ≤ 70000) : n ≤ 16 := by
  rcases Nat.lt_or_ge 16 n with h1 | h1
  · have := Nat.pow_le_pow_right (n := 2) (by omega) (show 17 ≤ n by omega)
    omega
  · exact h1
/-- What a loop of the law knows: k is still to be told, S is what was told. -/
structure Mk (b m k : Nat) (S : ByteArray) : Prop where
  len : S.size ≤ 17
  vl : ∃ v, val b S.data.toList = some v ∧ m = k * b ^ S.size + v
  sm : S.size = 0 → k = m
  hdd : S.size = 0 ∨ ∃ d t, d < b ∧ S.data.toList = hexd d :: t
theorem Mk.start (b m : Nat) : Mk b m m ⟨#[]⟩ := ⟨by show 0 ≤ 17; omega, ⟨0, rfl, by show m = m * b ^ 0 + 0; simp⟩, fun _ => rfl, .inl rfl⟩
theorem Mk.next {b m k : Nat} {S : ByteArray} (h : Mk b m k S) (hb2 : 2 ≤ b) (hb : b ≤ 16) (hm : m ≤ 70000) (hgo : 0 < k ∨ S.size = 0) : Mk b m (k / b) (one (hexd (k % b)) ++ S) := by
  have hd : k % b < b := Nat.mod_lt _ (by omega)
  obtain ⟨v, hv, hmv⟩ := h.vl
  have hsz : (one (hexd (k % b)) ++ S).size = S.size + 1 := by rw [ByteArray.size_append, one_size]; omega
  refine ⟨?_, ⟨k % b * b ^ S.size + v, ?_, ?_⟩, fun e => by rw [hsz] at e; omega, .inr ⟨k % b, _, hd, one_app _ _⟩⟩
  · rw [hsz]
    rcases hgo with h0 | h0
    · have h1 : b ^ S.size ≤ k * b ^ S.size := Nat.le_mul_of_pos_left _ h0
      have h2 : 2 ^ S.size ≤ b ^ S.size := Nat.pow_le_pow_left hb2 _
      have := pow_small S.size (by omega)
      omega
    · omega
  · rw [one_app, val_cons b (k % b) _ v hd (by omega) hv, size_list]
  · rw [hsz, hmv, Nat.pow_succ]
    have hk : k = k / b * b + k % b := by rw [Nat.mul_comm]; exact (Nat.div_add_mod k b).symm
    have : k * b ^ S.size = (k / b * b + k % b) * b ^ S.size := by rw [← hk]
    rw [this, Nat.add_mul, Nat.mul_assoc, Nat.mul_comm b, Nat.add_assoc]
theorem Mk.done {b m : Nat} {S : ByteArray} (h : Mk b m 0 S) (hS : S.size ≠ 0) : val b S.data.toList = some m ∧ S.data.toList ≠ [] ∧ ∃ d t, d < b ∧ S.data.toList = hexd d :: t := by
  obtain ⟨v, hv, hmv⟩ := h.vl
  have : v = m := by rw [hmv]; simp
  refine ⟨by rw [hv, this], fun e => hS (by rw [← size_list, e]; rfl), ?_⟩
  rcases h.hdd with h | h
  · exact absurd h hS
  · exact h
theorem body_of {b : Nat} {l : List UInt8} {m : Nat} (h : val b l = some m) (hne : l ≠ []) : body b l = some m := by unfold body; rw [if_neg hne, h]
theorem body_none {b : Nat} {l : List UInt8} (h : val b l = none) : body b l = none := by
  unfold body; split
  · rfl
  · exact h
theorem hd_ten (d : Nat) (t : List UInt8) (h : d < 10) : 48 ≤ hd (hexd d :: t) ∧ hd (hexd d :: t) ≤ 57 := (dig_hexd10 d h).2

/-- The three forms, the one below 0, and the spoilt ones. -/
theorem form_dec {l : List UInt8} {m d : Nat} {t : List UInt8} (h : val 10 l = some m) (hne : l ≠ []) (hd10 : d < 10) (e : l = hexd d :: t) : numI l = some (m : Int) := by
  have hh := hd_ten d t hd10
  rw [← e] at hh
  rw [numI_else l (quo_hd l (by omega)) (by omega) (by omega) (by omega), body_of h hne]; rfl
theorem form_dec_spoilt {l : List UInt8} {d : Nat} {t : List UInt8} (c : UInt8) (hc : dig c.toNat = 99) (hd10 : d < 10) (e : l = hexd d :: t) : numI (l ++ [c]) = none := by
  have hh := hd_ten d (t ++ [c]) hd10
  have e2 : l ++ [c] = hexd d :: (t ++ [c]) := by rw [e]; rfl
  rw [← e2] at hh
  rw [numI_else _ (quo_hd _ (by omega)) (by omega) (by omega) (by omega), body_none (val_spoil 10 l c (by omega) hc)]; rfl
theorem form_minus {l : List UInt8} {m : Nat} (h : val 10 l = some m) (hne : l ≠ []) : numI (45 :: l) = some (-(m : Int)) := by
  rw [numI_minus _ l 45 (quo_hd _ (by show (45 : UInt8).toNat ≠ 39; decide)) rfl (by decide), body_of h hne]; rfl
theorem form_hex {l : List UInt8} {m : Nat} (h : val 16 l = some m) (hne : l ≠ []) : numI (36 :: l) = some (m : Int) := by
  rw [numI_dollar _ l 36 (quo_hd _ (by show (36 : UInt8).toNat ≠ 39; decide)) rfl (by decide), body_of h hne]; rfl
theorem form_bin {l : List UInt8} {m : Nat} (h : val 2 l = some m) (hne : l ≠ []) : numI (37 :: l) = some (m : Int) := by
  rw [numI_percent _ l 37 (quo_hd _ (by show (37 : UInt8).toNat ≠ 39; decide)) rfl (by decide), body_of h hne]; rfl
theorem form_hex_spoilt (l : List UInt8) (c : UInt8) (hc : dig c.toNat = 99) : numI (36 :: (l ++ [c])) = none := by
  rw [numI_dollar _ (l ++ [c]) 36 (quo_hd _ (by show (36 : UInt8).toNat ≠ 39; decide)) rfl (by decide), body_none (val_spoil 16 l c (by omega) hc)]; rfl
theorem form_bin_spoilt (l : List UInt8) (c : UInt8) (hc : dig c.toNat = 99) : numI (37 :: (l ++ [c])) = none := by
  rw [numI_percent _ (l ++ [c]) 37 (quo_hd _ (by show (37 : UInt8).toNat ≠ 39; decide)) rfl (by decide), body_none (val_spoil 2 l c (by omega) hc)]; rfl

/-- A byte as a text. -/
theorem bytes_one (W : World) (v : Int) (c : UInt8) (h : (c.toNat : Int) = v) :
    (convert 36 9 (.slice (some ⟨W.heap.size, 0, none⟩) 1 1)).run Tryd.prog (W.alloc (.cells #[.int .u8 v] 5)) = .ok (.string (one c)) (W.alloc (.cells #[.int .u8 v] 5)) := by
  have h1 := run_convert_bytes_back (P := Tryd.prog) (W.alloc (.cells #[.int .u8 v] 5)) 36 9 5 ⟨W.heap.size, 0, none⟩ 1 [c] Tryd.underlying36 Tryd.underlying5 Tryd.underlying9 (fun j hj => by
    obtain rfl : j = 0 := by simpa using hj
    have ha : (⟨W.heap.size, 0, none⟩ : Addr).add 0 = ⟨W.heap.size, 0, none⟩ := by unfold Addr.add; simp
    rw [ha, cell_of_row _ W.heap.size 0 _ _ _ (heap_alloc_new W _)]
    simp [h])
  exact h1
end Go.Proofs.YtnoedlcdcoeokaaDoor
