import Derived.Test.YtnoedlcdcoeokaaDoorRef
/-! Digits and their numbers; the document's Decimal and Hex. -/
namespace Go.Proofs.YtnoedlcdcoeokaaDoor
open Go.RowKit
set_option linter.unusedVariables false

theorem dec_small (u : Nat) (h : u < 10) : Lib.decDigits u = [hexd u] := by
  rw [Lib.decDigits, dif_pos h]; unfold hexd; rw [if_pos h]
theorem dec_great (u : Nat) (h : ¬ u < 10) : Lib.decDigits u = Lib.decDigits (u / 10) ++ [hexd (u % 10)] := by
  have h10 : u % 10 < 10 := Nat.mod_lt _ (by omega)
  rw [Lib.decDigits, dif_neg h]; unfold hexd; rw [if_pos h10]
theorem dec_len (k : Nat) : ∀ u, u < 10 ^ (k + 1) → (Lib.decDigits u).length ≤ k + 1 := by
  induction k with
  | zero => intro u h; rw [dec_small u (by simpa using h)]; simp
  | succ k ih =>
    intro u h
    by_cases h1 : u < 10
    · rw [dec_small u h1]; simp
    · rw [dec_great u h1]
      have hp : 10 ^ (k + 1 + 1) = 10 ^ (k + 1) * 10 := Nat.pow_succ _ _
      have := ih (u / 10) (by omega)
      simp; omega
theorem dec_ne (u : Nat) : Lib.decDigits u ≠ [] := by
  by_cases h : u < 10
  · rw [dec_small u h]; simp
  · rw [dec_great u h]; simp
theorem dig_hexd10 (d : Nat) (h : d < 10) : dig (hexd d).toNat = d ∧ 48 ≤ (hexd d).toNat ∧ (hexd d).toNat ≤ 57 := by
  have key : ∀ e : Fin 10, dig (hexd e.val).toNat = e.val ∧ 48 ≤ (hexd e.val).toNat ∧ (hexd e.val).toNat ≤ 57 := by decide
  exact key ⟨d, h⟩
theorem dec_val : ∀ n u, u ≤ n → val 10 (Lib.decDigits u) = some u ∧ ∀ c ∈ Lib.decDigits u, 48 ≤ c.toNat ∧ c.toNat ≤ 57 := by
  intro n
  induction n with
  | zero =>
    intro u h
    obtain rfl : u = 0 := by omega
    rw [dec_small 0 (by omega)]
    decide
  | succ n ih =>
    intro u h
    by_cases h1 : u < 10
    · rw [dec_small u h1]
      have hd := dig_hexd10 u h1
      refine ⟨?_, fun c hc => ?_⟩
      · have := val_snoc 10 [] (hexd u)
        simp only [List.nil_append] at this
        rw [this, val_nil, hd.1]; unfold stepV; simp [h1]
      · simp at hc; subst hc; exact hd.2
    · rw [dec_great u h1]
      have h10 : u % 10 < 10 := Nat.mod_lt _ (by omega)
      have hd := dig_hexd10 (u % 10) h10
      obtain ⟨h2, h3⟩ := ih (u / 10) (by omega)
      refine ⟨?_, fun c hc => ?_⟩
      · rw [val_snoc, h2, hd.1]; unfold stepV; simp [h10]; omega
      · rw [List.mem_append] at hc
        rcases hc with hc | hc
        · exact h3 c hc
        · simp at hc; subst hc; exact hd.2

theorem val_zeros (b : Nat) (hb : 1 ≤ b) (k : Nat) (l : List UInt8) : val b (List.replicate k 48 ++ l) = val b l := by
  induction k with
  | zero => simp
  | succ k ih =>
    rw [List.replicate_succ, List.cons_append]
    rw [← ih]
    unfold val
    rw [List.foldl_cons]
    have : stepV b (some 0) (dig (48 : UInt8).toNat) = some 0 := by
      have h0 : dig (48 : UInt8).toNat = 0 := by decide
      rw [h0]; unfold stepV; simp; omega
    rw [this]
theorem quo_hd (l : List UInt8) (h : hd l ≠ 39) : quo l = false := by
  unfold quo
  split
  · rename_i a c d
    have : ¬ a.toNat = 39 := h
    simp [this]
  · rfl
/-- A list that opens with a digit. -/
theorem hd_digit {l m : List UInt8} (k : Nat) (hm : m ≠ []) (h : ∀ c ∈ m, 48 ≤ c.toNat ∧ c.toNat ≤ 57) : 48 ≤ hd (List.replicate k 48 ++ m) ∧ hd (List.replicate k 48 ++ m) ≤ 57 := by
  cases k with
  | zero =>
    cases m with
    | nil => exact absurd rfl hm
    | cons a t => exact h a (by simp)
  | succ k => rw [List.replicate_succ, List.cons_append]; show 48 ≤ (48 : UInt8).toNat ∧ (48 : UInt8).toNat ≤ 57; decide
theorem num_dec (k x : Nat) : numI (List.replicate k 48 ++ Lib.decDigits x) = some (x : Int) := by
  obtain ⟨h1, h2⟩ := dec_val x x (Nat.le_refl _)
  have hh := hd_digit (l := []) k (dec_ne x) h2
  rw [numI_else _ (quo_hd _ (by omega)) (by omega) (by omega) (by omega)]
  have hne : ¬ (List.replicate k 48 ++ Lib.decDigits x = []) := by
    intro e; have := (List.append_eq_nil_iff.1 e).2; exact dec_ne x this
  unfold body; rw [if_neg hne, val_zeros 10 (by omega), h1]; rfl
theorem num_minus (k x : Nat) : numI (45 :: (List.replicate k 48 ++ Lib.decDigits x)) = some (-(x : Int)) := by
  obtain ⟨h1, h2⟩ := dec_val x x (Nat.le_refl _)
  rw [numI_minus _ (List.replicate k 48 ++ Lib.decDigits x) 45 (quo_hd _ (by show (45 : UInt8).toNat ≠ 39; decide)) rfl (by decide)]
  have hne : ¬ (List.replicate k 48 ++ Lib.decDigits x = []) := by
    intro e; have := (List.append_eq_nil_iff.1 e).2; exact dec_ne x this
  unfold body; rw [if_neg hne, val_zeros 10 (by omega), h1]; rfl
theorem hex_val (x : Nat) (hx : x < 65536) : val 16 [hexd (x / 4096 % 16), hexd (x / 256 % 16), hexd (x / 16 % 16), hexd (x % 16)] = some x := by
  have d := fun n => dig_hexd (n % 16) (Nat.mod_lt n (by omega))
  have d1 := d (x / 4096); have d2 := d (x / 256); have d3 := d (x / 16); have d4 := d x
  have l1 : x / 4096 % 16 < 16 := Nat.mod_lt _ (by omega)
  have l2 : x / 256 % 16 < 16 := Nat.mod_lt _ (by omega)
  have l3 : x / 16 % 16 < 16 := Nat.mod_lt _ (by omega)
  have l4 : x % 16 < 16 := Nat.mod_lt _ (by omega)
  unfold val
  simp only [List.foldl_cons, List.foldl_nil, d1, d2, d3, d4]
  simp [stepV, l1, l2, l3, l4]
  omega
theorem num_hex (k x : Nat) (hx : x < 65536) : numI (36 :: (List.replicate k 48 ++ [hexd (x / 4096 % 16), hexd (x / 256 % 16), hexd (x / 16 % 16), hexd (x % 16)])) = some (x : Int) := by
  rw [numI_dollar _ (List.replicate k 48 ++ [hexd (x / 4096 % 16), hexd (x / 256 % 16), hexd (x / 16 % 16), hexd (x % 16)]) 36 (quo_hd _ (by show (36 : UInt8).toNat ≠ 39; decide)) rfl (by decide)]
  unfold body; rw [if_neg (by simp), val_zeros 16 (by omega), hex_val x hx]; rfl

/-! ### the document's Decimal and Hex -/
def one (c : UInt8) : ByteArray := ⟨#[c]⟩
theorem cut16 (d : Nat) (h : d < 16) : (⟨#[48, 49, 50, 51, 52, 53, 54, 55, 56, 57, 97, 98, 99, 100, 101, 102]⟩ : ByteArray).extract d (d + 1) = one (hexd d) := by
  have key : ∀ e : Fin 16, (⟨#[48, 49, 50, 51, 52, 53, 54, 55, 56, 57, 97, 98, 99, 100, 101, 102]⟩ : ByteArray).extract e.val (e.val + 1) = one (hexd e.val) := by decide
  exact key ⟨d, h⟩
theorem one_size (c : UInt8) : (one c).size = 1 := rfl
theorem one_app (c : UInt8) (S : ByteArray) : (one c ++ S).data.toList = c :: S.data.toList := by
  rw [ByteArray.data_append, Array.toList_append]; rfl
theorem dec_drop (u : Nat) : Lib.decDigits u = (Lib.decDigits u).dropLast ++ [hexd (u % 10)] := by
  by_cases h : u < 10
  · rw [dec_small u h, Nat.mod_eq_of_lt h]; rfl
  · rw [dec_great u h]; simp
theorem dec_drop_great (u : Nat) (h : ¬ u < 10) : (Lib.decDigits u).dropLast = Lib.decDigits (u / 10) := by rw [dec_great u h]; simp
theorem dec_drop_small (u : Nat) (h : u < 10) : (Lib.decDigits u).dropLast = [] := by rw [dec_small u h]; rfl
theorem mk_of (S : ByteArray) (l : List UInt8) (h : S.data.toList = l) : S = ⟨l.toArray⟩ := by
  apply ByteArray.ext; apply Array.toList_inj.1; rw [h]

set_option maxHeartbeats 1000000 in
set_option maxRecDepth 100000 in
theorem rdecimal_any (x : Nat) (hx : x < 65536) (w : World) :
    Calls Tryd.prog 16 #[.int .u16 (x : Int)] w fun e w' => e = .returned (.string ⟨(Lib.decDigits x).toArray⟩) ∧ w' = w := by
  have hl : (Lib.decDigits x).length ≤ 5 := dec_len 4 x (by omega)
  have H0 : Hid (Lib.decDigits x = (Lib.decDigits x).dropLast ++ [hexd (x % 10)]) := dec_drop x
  have hd10 : x % 10 < 10 := Nat.mod_lt _ (by omega)
  have hmod : (x : Int) % 10 = ((x % 10 : Nat) : Int) := by omega
  have hcut := cut16 (x % 10) (by omega)
  generalize x % 10 = d at *
  go_enter Tryd.func16, Tryd.ntmps16
  go_wp2
  go_loop [3, 4] (fun n s => ∃ (m : Nat) (S : ByteArray), m ≤ x ∧ n = .int .i64 m ∧ s = .string S ∧ Lib.decDigits x = (Lib.decDigits m).dropLast ++ S.data.toList) (fun n _ => (intOf n).toNat)
  case atStart => exact ⟨x, one (hexd d), Nat.le_refl _, rfl, rfl, H0.out⟩
  case round =>
    obtain ⟨m, S, hm, rfl, rfl, hS⟩ := hrel
    have hsz : S.size ≤ 5 := by
      have := congrArg List.length hS
      rw [List.length_append, size_list] at this
      omega
    have HS : Hid (Lib.decDigits x = (Lib.decDigits m).dropLast ++ S.data.toList) := hS
    clear hS hcut hmod H0
    by_cases h9 : 9 < m
    · have HD : Hid (Lib.decDigits x = (Lib.decDigits (m / 10)).dropLast ++ (one (hexd (m / 10 % 10)) ++ S).data.toList) := by
        show _ = _
        rw [HS.out, dec_drop_great m (by omega), one_app]
        have := dec_drop (m / 10)
        rw [this]; simp
      have hdiv : (m : Int) / 10 = ((m / 10 : Nat) : Int) := by omega
      have hlt : m / 10 < m := by omega
      have hd2 : m / 10 % 10 < 10 := Nat.mod_lt _ (by omega)
      have hmod2 : ((m / 10 : Nat) : Int) % 10 = ((m / 10 % 10 : Nat) : Int) := by omega
      have hcut2 := cut16 (m / 10 % 10) (by omega)
      generalize m / 10 % 10 = d2 at *
      generalize m / 10 = m2 at *
      have ho := one_size (hexd d2)
      go_wp2
      go_round
      case rel => exact ⟨m2, one (hexd d2) ++ S, by omega, rfl, by first | rfl | simp [hcut2], HD.out⟩
      case measure => simp [intOf]; omega
    · have hfin : S = ⟨(Lib.decDigits x).toArray⟩ := mk_of S _ (by rw [HS.out, dec_drop_small m (by omega)]; rfl)
      have HF : Hid (S = ⟨(Lib.decDigits x).toArray⟩) := hfin
      clear hfin
      go_wp2
      go_ret
      exact ⟨ret_str HF.out, rfl⟩

def hexS (x : Nat) : Nat → List UInt8
  | 0 => []
  | k + 1 => hexd (x / 16 ^ k % 16) :: hexS x k
theorem hexS_len (x k : Nat) : (hexS x k).length = k := by induction k with
  | zero => rfl
  | succ k ih => simp [hexS, ih]
set_option maxHeartbeats 1000000 in
set_option maxRecDepth 100000 in
theorem rhex_any (x : Nat) (hx : x < 65536) (w : World) :
    Calls Tryd.prog 17 #[.int .u16 (x : Int)] w fun e w' => e = .returned (.string ⟨(hex5 x).toArray⟩) ∧ w' = w := by
  go_enter Tryd.func17, Tryd.ntmps17
  go_wp2
  go_loop [3, 4, 5] (fun s n i => ∃ (k : Nat) (S : ByteArray), k ≤ 4 ∧ i = .int .i64 k ∧ n = .int .i64 ((x / 16 ^ k : Nat) : Int) ∧ s = .string S ∧ S.data.toList = hexS x k) (fun _ _ i => 4 - (intOf i).toNat)
  case atStart => exact ⟨0, ⟨#[]⟩, by omega, rfl, by simp, rfl, rfl⟩
  case round =>
    obtain ⟨k, S, hk, rfl, rfl, rfl, hS⟩ := hrel
    have hsz : S.size = k := by rw [← size_list, hS, hexS_len]
    have HS : Hid (S.data.toList = hexS x k) := hS
    clear hS
    by_cases h4 : k < 4
    · have HD : Hid ((one (hexd (x / 16 ^ k % 16)) ++ S).data.toList = hexS x (k + 1)) := by show _ = _; rw [one_app, HS.out]; rfl
      have HV : Hid (x / 16 ^ (k + 1) = x / 16 ^ k / 16) := by show _ = _; rw [Nat.pow_succ, Nat.div_div_eq_div_mul]
      have hu2 : x / 16 ^ k < 65536 := Nat.lt_of_le_of_lt (Nat.div_le_self _ _) hx
      have hd2 : x / 16 ^ k % 16 < 16 := Nat.mod_lt _ (by omega)
      have hmod2 : ((x / 16 ^ k : Nat) : Int) % 16 = ((x / 16 ^ k % 16 : Nat) : Int) := by omega
      have hcut2 := cut16 (x / 16 ^ k % 16) hd2
      have hdiv : ((x / 16 ^ k : Nat) : Int) / 16 = ((x / 16 ^ k / 16 : Nat) : Int) := by omega
      generalize x / 16 ^ k % 16 = d2 at *
      generalize x / 16 ^ k / 16 = m2 at *
      generalize x / 16 ^ k = m at *
      have ho := one_size (hexd d2)
      go_wp2
      go_round
      case rel => exact ⟨k + 1, one (hexd d2) ++ S, by omega, by go_num, by rw [HV.out], by first | rfl | simp [hcut2], HD.out⟩
      case measure => simp [intOf]; omega
    · obtain rfl : k = 4 := by omega
      have HF : Hid ((⟨#[36]⟩ : ByteArray) ++ S = ⟨(hex5 x).toArray⟩) := mk_of _ _ (by
        have := one_app 36 S
        rw [HS.out] at this
        exact this.trans (by simp [hexS, hex5]))
      go_wp2
      go_ret
      exact ⟨ret_str HF.out, rfl⟩
end Go.Proofs.YtnoedlcdcoeokaaDoor
