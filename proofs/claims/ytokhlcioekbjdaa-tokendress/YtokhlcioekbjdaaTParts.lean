import Derived.Test.YtokhlcioekbjdaaTNum
import Derived.Test.YtokhlcioekbjdaaShelf
import Derived.Deep.QuietTactic
import Derived.BigQuiet
/-! text.parts, text.Numeral, text.Name. -/
namespace Go.Proofs.Ytokhlcioekbjdaa.T
open Go.RowKit
set_option linter.unusedVariables false

def hd (l : List UInt8) : Nat := match l with | [] => 999 | c :: _ => c.toNat
theorem prefix_at (l : List UInt8) (c : UInt8) : Lib.hasPrefix l [c] = decide (hd l = c.toNat) := by
  unfold Lib.hasPrefix
  have hc : c.toNat < 256 := c.toNat_lt
  cases l with
  | nil => have h2 : ¬ 999 = c.toNat := by omega
           simp [List.isPrefixOf, hd, h2]
  | cons a t =>
    by_cases h : c = a
    · subst h; simp [List.isPrefixOf, hd]
    · have h2 : ¬ a.toNat = c.toNat := fun e => h (UInt8.toNat_inj.1 e).symm
      simp [List.isPrefixOf, hd, h, h2]
theorem hd_cons {l : List UInt8} {c : Nat} (h : hd l = c) (hc : c < 256) : ∃ a t, l = a :: t ∧ a.toNat = c := by
  cases l with
  | nil => simp [hd] at h; omega
  | cons a t => exact ⟨a, t, rfl, h⟩
theorem hd_size {s : ByteArray} {c : Nat} (h : hd s.data.toList = c) (hc : c < 256) : 1 ≤ s.size := by
  obtain ⟨a, t, e, _⟩ := hd_cons h hc
  rw [← size_list, e]; simp
theorem tail_list (s : ByteArray) (c : UInt8) (t : List UInt8) (h : s.data.toList = c :: t) : (s.extract 1 s.size).data.toList = t := by
  have hz : s.size = t.length + 1 := by rw [← size_list, h]; rfl
  rw [ByteArray.data_extract, Array.toList_extract, h, hz]
  simp

theorem below_drewN (w : World) (n : Nat) : Below w.heap.size w (w.drewN n) := ⟨rfl, rfl, rfl, Nat.le_refl _, fun _ _ => rfl⟩
theorem parts_minus (s : ByteArray) (hs : s.size ≤ maxLen) (h : hd s.data.toList = 45) (w : World) :
    Calls Try.prog 48 #[.string s] w fun e w' => e = .returned (.tuple #[.int .i64 (-1), .int .i64 10, .string (s.extract 1 s.size)]) ∧ Below w.heap.size w w' := by
  unfold maxLen at hs
  have hp : Lib.hasPrefix s.data.toList [45] = true := by rw [prefix_at, h]; decide
  have hz := hd_size h (by omega)
  clear h
  go_enter Try.func48, Try.ntmps48
  go_wp2_with (go_at_call 58; refine (Try.strings_HasPrefix _ _ _).mono ?_; rintro e w' ⟨rfl, rfl⟩)
  go_quiet (fail)
  go_wp2
  exact bodyPost_ret (v := .tuple #[.int .i64 (-1), .int .i64 10, .string (s.extract 1 s.size)]) (by simp [results, Try.results48, go_sem]) rfl ⟨rfl, below_drewN _ _⟩
theorem parts_dollar (s : ByteArray) (hs : s.size ≤ maxLen) (h : hd s.data.toList = 36) (w : World) :
    Calls Try.prog 48 #[.string s] w fun e w' => e = .returned (.tuple #[.int .i64 1, .int .i64 16, .string (s.extract 1 s.size)]) ∧ Below w.heap.size w w' := by
  unfold maxLen at hs
  have hp : Lib.hasPrefix s.data.toList [36] = true := by rw [prefix_at, h]; decide
  have hp45 : Lib.hasPrefix s.data.toList [45] = false := by rw [prefix_at, h]; decide
  have hz := hd_size h (by omega)
  clear h
  go_enter Try.func48, Try.ntmps48
  go_wp2_with (go_at_call 58; refine (Try.strings_HasPrefix _ _ _).mono ?_; rintro e w' ⟨rfl, rfl⟩)
  go_quiet (fail)
  go_wp2
  exact bodyPost_ret (v := .tuple #[.int .i64 1, .int .i64 16, .string (s.extract 1 s.size)]) (by simp [results, Try.results48, go_sem]) rfl ⟨rfl, below_drewN _ _⟩
theorem parts_percent (s : ByteArray) (hs : s.size ≤ maxLen) (h : hd s.data.toList = 37) (w : World) :
    Calls Try.prog 48 #[.string s] w fun e w' => e = .returned (.tuple #[.int .i64 1, .int .i64 2, .string (s.extract 1 s.size)]) ∧ Below w.heap.size w w' := by
  unfold maxLen at hs
  have hp : Lib.hasPrefix s.data.toList [37] = true := by rw [prefix_at, h]; decide
  have hp45 : Lib.hasPrefix s.data.toList [45] = false := by rw [prefix_at, h]; decide
  have hp36 : Lib.hasPrefix s.data.toList [36] = false := by rw [prefix_at, h]; decide
  have hz := hd_size h (by omega)
  clear h
  go_enter Try.func48, Try.ntmps48
  go_wp2_with (go_at_call 58; refine (Try.strings_HasPrefix _ _ _).mono ?_; rintro e w' ⟨rfl, rfl⟩)
  go_quiet (fail)
  go_wp2
  exact bodyPost_ret (v := .tuple #[.int .i64 1, .int .i64 2, .string (s.extract 1 s.size)]) (by simp [results, Try.results48, go_sem]) rfl ⟨rfl, below_drewN _ _⟩
theorem parts_else (s : ByteArray) (h1 : hd s.data.toList ≠ 45) (h2 : hd s.data.toList ≠ 36) (h3 : hd s.data.toList ≠ 37) (w : World) :
    Calls Try.prog 48 #[.string s] w fun e w' => e = .returned (.tuple #[.int .i64 1, .int .i64 10, .string s]) ∧ Below w.heap.size w w' := by
  have hp1 : Lib.hasPrefix s.data.toList [45] = false := by rw [prefix_at]; simpa using h1
  have hp2 : Lib.hasPrefix s.data.toList [36] = false := by rw [prefix_at]; simpa using h2
  have hp3 : Lib.hasPrefix s.data.toList [37] = false := by rw [prefix_at]; simpa using h3
  clear h1 h2 h3
  go_enter Try.func48, Try.ntmps48
  go_wp2_with (go_at_call 58; refine (Try.strings_HasPrefix _ _ _).mono ?_; rintro e w' ⟨rfl, rfl⟩)
  exact bodyPost_ret (v := .tuple #[.int .i64 1, .int .i64 10, .string s]) (by simp [results, Try.results48, go_sem]) rfl ⟨rfl, Below.refl _ _⟩

/-! ### Numeral -/
theorem nb_body (b : Nat) (l : List UInt8) : (nb b l = false ∧ body b l = none) ∨ ∃ v, nb b l = true ∧ body b l = some v ∧ nv b l = ((min v 65536 : Nat) : Int) := by
  unfold body
  by_cases h : l = []
  · left; subst h; exact ⟨rfl, rfl⟩
  · cases hv : val b l with
    | none => left; exact ⟨nb_none hv, by rw [if_neg h]⟩
    | some v => right; exact ⟨v, by rw [nb_some hv]; simpa using h, by rw [if_neg h], nv_some hv⟩
theorem numI_quo (l : List UInt8) (h : quo l = true) : numI l = some ((l.getD 1 0).toNat : Int) := by unfold numI; rw [if_pos h]
theorem numI_minus (l t : List UInt8) (a : UInt8) (h : quo l = false) (e : l = a :: t) (ha : a.toNat = 45) : numI l = (body 10 t).map fun n => -(n : Int) := by
  subst e; unfold numI; rw [if_neg (by simp [h])]; simp [ha]
theorem numI_dollar (l t : List UInt8) (a : UInt8) (h : quo l = false) (e : l = a :: t) (ha : a.toNat = 36) : numI l = (body 16 t).map fun n => (n : Int) := by
  subst e; unfold numI; rw [if_neg (by simp [h])]; simp [ha]
theorem numI_percent (l t : List UInt8) (a : UInt8) (h : quo l = false) (e : l = a :: t) (ha : a.toNat = 37) : numI l = (body 2 t).map fun n => (n : Int) := by
  subst e; unfold numI; rw [if_neg (by simp [h])]; simp [ha]
theorem numI_else (l : List UInt8) (h : quo l = false) (h1 : hd l ≠ 45) (h2 : hd l ≠ 36) (h3 : hd l ≠ 37) : numI l = (body 10 l).map fun n => (n : Int) := by
  unfold numI; rw [if_neg (by simp [h])]
  cases l with
  | nil => rfl
  | cons a t => have h1 : ¬ a.toNat = 45 := h1; have h2 : ¬ a.toNat = 36 := h2; have h3 : ¬ a.toNat = 37 := h3
                simp [h1, h2, h3]
theorem ret_num {a a' b b' : Int} (h1 : a = a') (h2 : b = b') : Ending.returned (.tuple #[.int .u16 a, .int .i64 b]) = .returned (.tuple #[.int .u16 a', .int .i64 b']) := by rw [h1, h2]
theorem numC_none {l : List UInt8} (h : numI l = none) : numC l = 0 ∧ numE l = 20 := by unfold numC numE; rw [h]; exact ⟨rfl, rfl⟩
theorem numC_in {l : List UInt8} {n : Int} (h : numI l = some n) (a : -32768 ≤ n) (b : n ≤ 65535) : numC l = n % 65536 ∧ numE l = 0 := by
  unfold numC numE cellOf errOf; rw [h]; simp [a, b]
theorem numC_out {l : List UInt8} {n : Int} (h : numI l = some n) (a : n < -32768 ∨ 65535 < n) : numC l = 0 ∧ numE l = 21 := by
  have : ¬ (-32768 ≤ n ∧ n ≤ 65535) := by omega
  unfold numC numE cellOf errOf; rw [h]; simp only [if_neg this]; exact ⟨trivial, trivial⟩

/-- What Numeral does once the parts are told. -/
theorem numeral_of (s d : ByteArray) (hd : d.size ≤ maxLen) (σ : Int) (hσ : σ = 1 ∨ σ = -1) (b : Nat) (hb2 : 2 ≤ b) (hb16 : b ≤ 16) (hs : s.size ≤ maxLen)
    (hq : quo s.data.toList = false)
    (hp : ∀ w, Calls Try.prog 48 #[.string s] w fun e w' => e = .returned (.tuple #[.int .i64 σ, .int .i64 b, .string d]) ∧ Below w.heap.size w w')
    (hn : numI s.data.toList = (body b d.data.toList).map fun n => σ * (n : Int)) (w : World) :
    Calls Try.prog 40 #[.string s] w fun e w' => e = .returned (.tuple #[.int .u16 (numC s.data.toList), .int .i64 (numE s.data.toList)]) ∧ Below w.heap.size w w' := by
  rcases nb_body b d.data.toList with ⟨hf, hb⟩ | ⟨v, ht, hb, hv⟩
  · rw [hb] at hn
    have H : Hid (numC s.data.toList = 0 ∧ numE s.data.toList = 20) := numC_none hn
    clear hn hb
    go_enter Try.func40, Try.ntmps40
    go_wp2_with (first | (go_at_call 47; refine (quoted_any _ hs _).mono ?_; rintro e w1 ⟨rfl, rfl⟩) | (go_at_call 48; refine (hp _).mono ?_; rintro e w2 ⟨rfl, hb1⟩) | (go_at_call 49; refine (number_any d b hd hb2 hb16 _).mono ?_; rintro e w3 ⟨rfl, hb2⟩))
    go_ret2
    exact ⟨ret_num H.out.1.symm H.out.2.symm, hb1.trans (hb2.mono hb1.size)⟩
  · rw [hb] at hn
    have hn' : numI s.data.toList = some (σ * (v : Int)) := hn
    clear hn hb
    by_cases hin : -32768 ≤ σ * (v : Int) ∧ σ * (v : Int) ≤ 65535
    · have H : Hid (numC s.data.toList = (σ * (v : Int)) % 65536 ∧ numE s.data.toList = 0) := numC_in hn' hin.1 hin.2
      obtain ⟨h1, h2⟩ := hin
      clear hn'
      have hv' : nv b d.data.toList = (v : Int) := by rw [hv]; rcases hσ with rfl | rfl <;> omega
      clear hv
      rcases hσ with rfl | rfl
      all_goals
        have h3 : 0 ≤ (v : Int) := by omega
        have h4 : (v : Int) ≤ 65535 := by omega
        go_enter Try.func40, Try.ntmps40
        go_wp2_with (first | (go_at_call 47; refine (quoted_any _ hs _).mono ?_; rintro e w1 ⟨rfl, rfl⟩) | (go_at_call 48; refine (hp _).mono ?_; rintro e w2 ⟨rfl, hb1⟩) | (go_at_call 49; refine (number_any d b hd hb2 hb16 _).mono ?_; rintro e w3 ⟨rfl, hb2⟩))
        go_ret2
        exact ⟨ret_num (by rw [H.out.1]; first | omega | (rw [IntKind.wrap_u16]; omega)) H.out.2.symm, hb1.trans (hb2.mono hb1.size)⟩
    · have H : Hid (numC s.data.toList = 0 ∧ numE s.data.toList = 21) := numC_out hn' (by omega)
      clear hn'
      generalize hm : min v 65536 = m at hv
      have hmI : Hid (m = min v 65536) := hm.symm
      clear hm
      rcases hσ with rfl | rfl
      · have h4 : (65535 : Int) < m := by have := hmI.out; omega
        have h5 : (m : Int) ≤ 65536 := by have := hmI.out; omega
        clear hin
        go_enter Try.func40, Try.ntmps40
        go_wp2_with (first | (go_at_call 47; refine (quoted_any _ hs _).mono ?_; rintro e w1 ⟨rfl, rfl⟩) | (go_at_call 48; refine (hp _).mono ?_; rintro e w2 ⟨rfl, hb1⟩) | (go_at_call 49; refine (number_any d b hd hb2 hb16 _).mono ?_; rintro e w3 ⟨rfl, hb2⟩))
        go_ret2
        exact ⟨ret_num H.out.1.symm H.out.2.symm, hb1.trans (hb2.mono hb1.size)⟩
      · have h4 : (32768 : Int) < m := by have := hmI.out; omega
        have h5 : (m : Int) ≤ 65536 := by have := hmI.out; omega
        clear hin
        go_enter Try.func40, Try.ntmps40
        go_wp2_with (first | (go_at_call 47; refine (quoted_any _ hs _).mono ?_; rintro e w1 ⟨rfl, rfl⟩) | (go_at_call 48; refine (hp _).mono ?_; rintro e w2 ⟨rfl, hb1⟩) | (go_at_call 49; refine (number_any d b hd hb2 hb16 _).mono ?_; rintro e w3 ⟨rfl, hb2⟩))
        go_ret2
        exact ⟨ret_num H.out.1.symm H.out.2.symm, hb1.trans (hb2.mono hb1.size)⟩

theorem extract_le (s : ByteArray) (h : s.size ≤ maxLen) : (s.extract 1 s.size).size ≤ maxLen := by
  have : (s.extract 1 s.size).size = min s.size s.size - 1 := by simp [ByteArray.size_extract]
  omega
theorem numeral_any (s : ByteArray) (hs : s.size ≤ maxLen) (w : World) :
    Calls Try.prog 40 #[.string s] w fun e w' => e = .returned (.tuple #[.int .u16 (numC s.data.toList), .int .i64 (numE s.data.toList)]) ∧ Below w.heap.size w w' := by
  cases hq : quo s.data.toList with
  | true =>
    have h3 : s.size = 3 := by
      by_cases h : s.size = 3
      · exact h
      · rw [quo_else s h] at hq; cases hq
    have hl1 : 1 < s.size := by omega
    have hb1 : s[1].toNat < 256 := s[1].toNat_lt
    have hn : numI s.data.toList = some (s[1].toNat : Int) := by
      rw [numI_quo _ hq]
      obtain ⟨a, b, c, rfl⟩ := three s h3
      rfl
    have H : Hid (numC s.data.toList = (s[1].toNat : Int) % 65536 ∧ numE s.data.toList = 0) := numC_in hn (by omega) (by omega)
    clear hn
    go_enter Try.func40, Try.ntmps40
    go_wp2_with (first | (go_at_call 47; refine (quoted_any _ hs _).mono ?_; rintro e w1 ⟨rfl, rfl⟩))
    go_ret2
    exact ⟨ret_num (by rw [H.out.1]; omega) H.out.2.symm, Below.refl _ _⟩
  | false =>
    by_cases h1 : hd s.data.toList = 45
    · obtain ⟨a, t, e, ha⟩ := hd_cons h1 (by omega)
      exact numeral_of s (s.extract 1 s.size) (extract_le s hs) (-1) (.inr rfl) 10 (by omega) (by omega) hs hq (fun w => parts_minus s hs h1 w)
        (by rw [numI_minus _ t a hq e ha, tail_list s a t e]; congr 1; funext n; omega) w
    · by_cases h2 : hd s.data.toList = 36
      · obtain ⟨a, t, e, ha⟩ := hd_cons h2 (by omega)
        exact numeral_of s (s.extract 1 s.size) (extract_le s hs) 1 (.inl rfl) 16 (by omega) (by omega) hs hq (fun w => parts_dollar s hs h2 w)
          (by rw [numI_dollar _ t a hq e ha, tail_list s a t e]; congr 1; funext n; omega) w
      · by_cases h3 : hd s.data.toList = 37
        · obtain ⟨a, t, e, ha⟩ := hd_cons h3 (by omega)
          exact numeral_of s (s.extract 1 s.size) (extract_le s hs) 1 (.inl rfl) 2 (by omega) (by omega) hs hq (fun w => parts_percent s hs h3 w)
            (by rw [numI_percent _ t a hq e ha, tail_list s a t e]; congr 1; funext n; omega) w
        · exact numeral_of s s hs 1 (.inl rfl) 10 (by omega) (by omega) hs hq (fun w => parts_else s h1 h2 h3 w)
            (by rw [numI_else _ hq h1 h2 h3]; congr 1; funext n; omega) w
end Go.Proofs.Ytokhlcioekbjdaa.T
