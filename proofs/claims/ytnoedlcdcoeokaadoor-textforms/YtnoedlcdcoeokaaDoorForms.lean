import Derived.Test.YtnoedlcdcoeokaaDoorFormsMath
/-! TextForms' walk. -/
namespace Go.Proofs.YtnoedlcdcoeokaaDoor
open Go.RowKit
set_option linter.unusedVariables false
theorem str_nil (S : ByteArray) (h : S.size = 0) : S.toList.isEmpty = true := by
  rw [ByteArray.toList_eq]
  have : S.data.toList.length = 0 := by rw [size_list]; exact h
  rw [List.length_eq_zero_iff.1 this]; rfl
theorem hexd_low (d : Nat) (h : d < 10) : ((hexd d).toNat : Int) = 48 + (d : Int) := by
  have key : ∀ e : Fin 10, (hexd e.val).toNat = 48 + e.val := by decide
  have := key ⟨d, h⟩
  simp at this; omega

def strLen (v : Value) : Nat :=
  match v with
  | .string s => s.size
  | _ => 0
theorem m_of (n : Int) : ∃ m : Nat, max (wrap64 ((wrap64 (n.tmod 110001 + 110001)).tmod 110001 - 40000)) (wrap64 (-wrap64 ((wrap64 (n.tmod 110001 + 110001)).tmod 110001 - 40000))) = (m : Int) ∧ m ≤ 70000 := by
  have h1 := Int.tmod_lt_of_pos n (show (0 : Int) < 110001 by decide)
  have h2 : -110001 < n.tmod 110001 := by
    have := Int.tmod_lt_of_pos (-n) (show (0 : Int) < 110001 by decide)
    rw [Int.neg_tmod] at this
    omega
  generalize n.tmod 110001 = a at *
  have e1 : wrap64 (a + 110001) = a + 110001 := by unfold wrap64; omega
  rw [e1]
  have h3 := Int.tmod_lt_of_pos (a + 110001) (show (0 : Int) < 110001 by decide)
  have h4 := Int.tmod_nonneg 110001 (show (0 : Int) ≤ a + 110001 by omega)
  generalize (a + 110001).tmod 110001 = b at *
  have e2 : wrap64 (b - 40000) = b - 40000 := by unfold wrap64; omega
  rw [e2]
  have e3 : wrap64 (-(b - 40000)) = -(b - 40000) := by unfold wrap64; omega
  rw [e3]
  refine ⟨(max (b - 40000) (-(b - 40000))).toNat, by omega, by omega⟩

set_option maxHeartbeats 2000000 in
set_option maxRecDepth 100000 in
theorem forms_any (n : Int) (hn0 : -9223372036854775808 ≤ n) (hn1 : n ≤ 9223372036854775807) (c : Nat) (hc : c < 256) (w : World) (hT : Tabs w) :
    Calls Tryd.prog 5 #[.int .i64 n, .int .u8 (c : Int)] w fun e w' => e = .returned (.bool true) ∧ Below w.heap.size w w' := by
  have hB := Below.refl w.heap.size w
  go_enter Tryd.func5, Tryd.ntmps5
  go_wp2_with (first
    | (go_at_call 9; refine (fixed_any _ (hT.below hB)).mono ?_; rintro e wn ⟨rfl, hb⟩; replace hB := hB.trans (hb.mono hB.size); clear hb))
  obtain ⟨m, hm, hm7⟩ := m_of n
  rw [hm]
  clear hm
  go_loopw [6, 9] (fun s i wr => ∃ (k : Nat) (S : ByteArray), s = .string S ∧ i = .int .i64 (k : Int) ∧ Mk 10 m k S ∧ Below w.heap.size w wr ∧ k ≤ 70000) (fun s i _ => 2 * (intOf i).toNat + (1 - strLen s))
  case atStart => exact ⟨m, ⟨#[]⟩, rfl, rfl, Mk.start 10 m, hB, hm7⟩
  case round =>
    clear hB
    obtain ⟨k, S10, rfl, rfl, hS, hB, hk⟩ := hrel
    have hSl10 := hS.len
    by_cases hgo : 0 < k ∨ S10.size = 0
    · have HN : Hid (Mk 10 m (k / 10) (one (hexd (k % 10)) ++ S10)) := hS.next (by omega) (by omega) hm7 hgo
      have hd : k % 10 < 10 := Nat.mod_lt _ (by omega)
      have hk2 : k / 10 ≤ k := Nat.div_le_self _ _
      have hk3 : 0 < k → k / 10 < k := fun h => Nat.div_lt_self h (by omega)
      have hmod : (k : Int) % 10 = ((k % 10 : Nat) : Int) := by omega
      have hdiv : (k : Int) / 10 = ((k / 10 : Nat) : Int) := by omega
      generalize k % 10 = d at *
      generalize k / 10 = k2 at *
      have ho := one_size (hexd d)
      have hcv := bytes_one wr (48 + (d : Int)) (hexd d) (hexd_low d (by omega))
      have HB : Hid (Below w.heap.size w wr) := hB
      clear hS hB
      by_cases h0 : 0 < k
      · have h0I : (0 : Int) < (k : Int) := by omega
        go_wp2_with fail
        go_roundw
        case rel => exact ⟨k2, one (hexd d) ++ S10, rfl, rfl, HN.out, HB.out.alloc HB.out.size _, by omega⟩
        case measure => have := hk3 h0; simp [intOf, strLen]; omega
      · have hS0 : S10.size = 0 := by omega
        have hd0 : decide ((0 : Int) < (k : Int)) = false := by simp; omega
        have hemp := str_nil S10 hS0
        have hk0 : k2 = 0 := by omega
        go_wp2_with fail
        go_roundw
        case rel => exact ⟨k2, one (hexd d) ++ S10, rfl, by first | rfl | (rw [hk0]; rfl), HN.out, HB.out.alloc HB.out.size _, by omega⟩
        case measure => simp [intOf, strLen, ho, hS0] <;> omega
    · obtain rfl : k = 0 := by omega
      have hne : S10.size ≠ 0 := by omega
      have H10 : Hid (val 10 S10.data.toList = some m ∧ S10.data.toList ≠ [] ∧ ∃ d t, d < 10 ∧ S10.data.toList = hexd d :: t) := hS.done hne
      have hemp := isEmpty_of S10 (by omega)
      clear hS hgo hk
      have hd0 : decide ((0 : Int) < ((0 : Nat) : Int)) = false := by simp
      go_wp2_with fail
      clear hemp hd0 hne
      go_loopw [7, 10] (fun s i wr => ∃ (k : Nat) (S : ByteArray), s = .string S ∧ i = .int .i64 (k : Int) ∧ Mk 16 m k S ∧ Below w.heap.size w wr ∧ k ≤ 70000) (fun s i _ => 2 * (intOf i).toNat + (1 - strLen s))
      case atStart => exact ⟨m, ⟨#[]⟩, rfl, rfl, Mk.start 16 m, hB, hm7⟩
      case round =>
        clear hB
        obtain ⟨k, S16, rfl, rfl, hS, hB, hk⟩ := hrel
        have hSl16 := hS.len
        by_cases hgo : 0 < k ∨ S16.size = 0
        · have HN : Hid (Mk 16 m (k / 16) (one (hexd (k % 16)) ++ S16)) := hS.next (by omega) (by omega) hm7 hgo
          have hd : k % 16 < 16 := Nat.mod_lt _ (by omega)
          have hk2 : k / 16 ≤ k := Nat.div_le_self _ _
          have hk3 : 0 < k → k / 16 < k := fun h => Nat.div_lt_self h (by omega)
          have hmod : (k : Int) % 16 = ((k % 16 : Nat) : Int) := by omega
          have hdiv : (k : Int) / 16 = ((k / 16 : Nat) : Int) := by omega
          generalize k % 16 = d at *
          generalize k / 16 = k2 at *
          have ho := one_size (hexd d)
          have hcut := cut16 d hd
          have HB : Hid (Below w.heap.size w wr) := hB
          clear hS hB
          by_cases h0 : 0 < k
          · have h0I : (0 : Int) < (k : Int) := by omega
            go_wp2_with fail
            go_roundw
            case rel => exact ⟨k2, one (hexd d) ++ S16, rfl, rfl, HN.out, HB.out, by omega⟩
            case measure => have := hk3 h0; simp [intOf, strLen]; omega
          · have hS0 : S16.size = 0 := by omega
            have hd0 : decide ((0 : Int) < (k : Int)) = false := by simp; omega
            have hemp := str_nil S16 hS0
            have hk0 : k2 = 0 := by omega
            go_wp2_with fail
            go_roundw
            case rel => exact ⟨k2, one (hexd d) ++ S16, rfl, by first | rfl | (rw [hk0]; rfl), HN.out, HB.out, by omega⟩
            case measure => simp [intOf, strLen, ho, hS0] <;> omega
        · obtain rfl : k = 0 := by omega
          have hne : S16.size ≠ 0 := by omega
          have H16 : Hid (val 16 S16.data.toList = some m ∧ S16.data.toList ≠ [] ∧ ∃ d t, d < 16 ∧ S16.data.toList = hexd d :: t) := hS.done hne
          have hemp := isEmpty_of S16 (by omega)
          clear hS hgo hk
          have hd0 : decide ((0 : Int) < ((0 : Nat) : Int)) = false := by simp
          go_wp2_with fail
          clear hemp hd0 hne
          go_loopw [8, 11] (fun s i wr => ∃ (k : Nat) (S : ByteArray), s = .string S ∧ i = .int .i64 (k : Int) ∧ Mk 2 m k S ∧ Below w.heap.size w wr ∧ k ≤ 70000) (fun s i _ => 2 * (intOf i).toNat + (1 - strLen s))
          case atStart => exact ⟨m, ⟨#[]⟩, rfl, rfl, Mk.start 2 m, hB, hm7⟩
          case round =>
            clear hB
            obtain ⟨k, S2, rfl, rfl, hS, hB, hk⟩ := hrel
            have hSl2 := hS.len
            by_cases hgo : 0 < k ∨ S2.size = 0
            · have HN : Hid (Mk 2 m (k / 2) (one (hexd (k % 2)) ++ S2)) := hS.next (by omega) (by omega) hm7 hgo
              have hd : k % 2 < 2 := Nat.mod_lt _ (by omega)
              have hk2 : k / 2 ≤ k := Nat.div_le_self _ _
              have hk3 : 0 < k → k / 2 < k := fun h => Nat.div_lt_self h (by omega)
              have hmod : (k : Int) % 2 = ((k % 2 : Nat) : Int) := by omega
              have hdiv : (k : Int) / 2 = ((k / 2 : Nat) : Int) := by omega
              generalize k % 2 = d at *
              generalize k / 2 = k2 at *
              have ho := one_size (hexd d)
              have hcv := bytes_one wr (48 + (d : Int)) (hexd d) (hexd_low d (by omega))
              have HB : Hid (Below w.heap.size w wr) := hB
              clear hS hB
              by_cases h0 : 0 < k
              · have h0I : (0 : Int) < (k : Int) := by omega
                go_wp2_with fail
                go_roundw
                case rel => exact ⟨k2, one (hexd d) ++ S2, rfl, rfl, HN.out, HB.out.alloc HB.out.size _, by omega⟩
                case measure => have := hk3 h0; simp [intOf, strLen]; omega
              · have hS0 : S2.size = 0 := by omega
                have hd0 : decide ((0 : Int) < (k : Int)) = false := by simp; omega
                have hemp := str_nil S2 hS0
                have hk0 : k2 = 0 := by omega
                go_wp2_with fail
                go_roundw
                case rel => exact ⟨k2, one (hexd d) ++ S2, rfl, by first | rfl | (rw [hk0]; rfl), HN.out, HB.out.alloc HB.out.size _, by omega⟩
                case measure => simp [intOf, strLen, ho, hS0] <;> omega
            · obtain rfl : k = 0 := by omega
              have hne : S2.size ≠ 0 := by omega
              have H2 : Hid (val 2 S2.data.toList = some m ∧ S2.data.toList ≠ [] ∧ ∃ d t, d < 2 ∧ S2.data.toList = hexd d :: t) := hS.done hne
              have hemp := isEmpty_of S2 (by omega)
              clear hS hgo hk
              have hd0 : decide ((0 : Int) < ((0 : Nat) : Int)) = false := by simp
              go_upto_region 18 with (fail)
              clear hemp hd0 hne
              obtain ⟨v10, ne10, d, t, hd, hh⟩ := H10.out
              have n10 := form_dec v10 ne10 hd hh
              have nm := form_minus v10 ne10
              have n16 := form_hex H16.out.1 H16.out.2.1
              have n2 := form_bin H2.out.1 H2.out.2.1
              obtain ⟨u, hu⟩ : ∃ u : UInt8, u.toNat = c := ⟨UInt8.ofNat c, by simp; omega⟩
              have p10 := fun h => form_dec_spoilt (l := S10.data.toList) u h hd hh
              have p16 := fun h => form_hex_spoilt S16.data.toList u h
              have p2 := fun h => form_bin_spoilt S2.data.toList u h
              have hu1 := one_size u
              have q16 : (⟨#[36]⟩ ++ S16 : ByteArray).data.toList = 36 :: S16.data.toList := one_app 36 S16
              have q2 : (⟨#[37]⟩ ++ S2 : ByteArray).data.toList = 37 :: S2.data.toList := one_app 37 S2
              have qm : (⟨#[45]⟩ ++ S10 : ByteArray).data.toList = 45 :: S10.data.toList := one_app 45 S10
              have r10 : (S10 ++ one u).data.toList = S10.data.toList ++ [u] := by rw [app_list]; rfl
              have r16 : (⟨#[36]⟩ ++ S16 ++ one u : ByteArray).data.toList = 36 :: (S16.data.toList ++ [u]) := by rw [app_list, q16]; rfl
              have r2 : (⟨#[37]⟩ ++ S2 ++ one u : ByteArray).data.toList = 37 :: (S2.data.toList ++ [u]) := by rw [app_list, q2]; rfl
              have z16 : (⟨#[36]⟩ ++ S16 : ByteArray).size ≤ maxLen := small_max _ (by rw [ByteArray.size_append]; show 1 + S16.size ≤ 1000; omega)
              have z2 : (⟨#[37]⟩ ++ S2 : ByteArray).size ≤ maxLen := small_max _ (by rw [ByteArray.size_append]; show 1 + S2.size ≤ 1000; omega)
              have zm : (⟨#[45]⟩ ++ S10 : ByteArray).size ≤ maxLen := small_max _ (by rw [ByteArray.size_append]; show 1 + S10.size ≤ 1000; omega)
              have y10 : (S10 ++ one u).size ≤ maxLen := small_max _ (by rw [ByteArray.size_append, hu1]; omega)
              have y16 : (⟨#[36]⟩ ++ S16 ++ one u : ByteArray).size ≤ maxLen := small_max _ (by rw [ByteArray.size_append, ByteArray.size_append, hu1]; show 1 + S16.size + 1 ≤ 1000; omega)
              have y2 : (⟨#[37]⟩ ++ S2 ++ one u : ByteArray).size ≤ maxLen := small_max _ (by rw [ByteArray.size_append, ByteArray.size_append, hu1]; show 1 + S2.size + 1 ≤ 1000; omega)
              have s10 : dig u.toNat = 99 → ∀ W : World, Calls Tryd.prog 11 #[.string (S10 ++ one u), .int .u16 0, .int .i64 20] W fun e w' => e = .returned (.bool true) ∧ Below W.heap.size W w' := fun h W => told_yes _ 0 20 y10 W (by rw [r10]; exact (numC_none (p10 h)).1) (by rw [r10]; exact (numC_none (p10 h)).2)
              have s16 : dig u.toNat = 99 → ∀ W : World, Calls Tryd.prog 11 #[.string (⟨#[36]⟩ ++ S16 ++ one u : ByteArray), .int .u16 0, .int .i64 20] W fun e w' => e = .returned (.bool true) ∧ Below W.heap.size W w' := fun h W => told_yes _ 0 20 y16 W (by rw [r16]; exact (numC_none (p16 h)).1) (by rw [r16]; exact (numC_none (p16 h)).2)
              have s2 : dig u.toNat = 99 → ∀ W : World, Calls Tryd.prog 11 #[.string (⟨#[37]⟩ ++ S2 ++ one u : ByteArray), .int .u16 0, .int .i64 20] W fun e w' => e = .returned (.bool true) ∧ Below W.heap.size W w' := fun h W => told_yes _ 0 20 y2 W (by rw [r2]; exact (numC_none (p2 h)).1) (by rw [r2]; exact (numC_none (p2 h)).2)
              by_cases hA : m ≤ 65535
              · obtain ⟨a10, b10⟩ := in_cell (by omega) n10
                obtain ⟨a16, b16⟩ := in_cell (by omega) n16
                obtain ⟨a2, b2⟩ := in_cell (by omega) n2
                have t10 : ∀ W : World, Calls Tryd.prog 11 #[.string S10, .int .u16 (m : Int), .int .i64 0] W fun e w' => e = .returned (.bool true) ∧ Below W.heap.size W w' := fun W => told_yes _ _ _ (small_max _ (by omega)) W a10 b10
                have t16 : ∀ W : World, Calls Tryd.prog 11 #[.string (⟨#[36]⟩ ++ S16 : ByteArray), .int .u16 (m : Int), .int .i64 0] W fun e w' => e = .returned (.bool true) ∧ Below W.heap.size W w' := fun W => told_yes _ _ _ z16 W (by rw [q16]; exact a16) (by rw [q16]; exact b16)
                have t2 : ∀ W : World, Calls Tryd.prog 11 #[.string (⟨#[37]⟩ ++ S2 : ByteArray), .int .u16 (m : Int), .int .i64 0] W fun e w' => e = .returned (.bool true) ∧ Below W.heap.size W w' := fun W => told_yes _ _ _ z2 W (by rw [q2]; exact a2) (by rw [q2]; exact b2)
                have hAI : (m : Int) ≤ 65535 := by omega
                clear a10 b10 a16 b16 a2 b2
                by_cases hL : m ≤ 32768
                · obtain ⟨am, bm⟩ := numC_in nm (by omega) (by omega)
                  have tm : ∀ W : World, Calls Tryd.prog 11 #[.string (⟨#[45]⟩ ++ S10 : ByteArray), .int .u16 (IntKind.u16.wrap (-(m : Int))), .int .i64 0] W fun e w' => e = .returned (.bool true) ∧ Below W.heap.size W w' := fun W => told_yes _ _ _ zm W (by rw [qm, am, IntKind.wrap_u16]) (by rw [qm]; exact bm)
                  have hLI : (m : Int) ≤ 32768 := by omega
                  clear am bm
                  clear n10 nm n16 n2 p10 p16 p2 q16 q2 qm r10 r16 r2 z16 z2 zm y10 y16 y2 v10 ne10 hh
                  go_wp2_with fail
                  refine (t10 _).mono ?_
                  rintro e wm ⟨rfl, hb⟩
                  replace hB := hB.trans (hb.mono hB.size)
                  clear hb
                  go_wp2_with fail
                  refine (t16 _).mono ?_
                  rintro e wm ⟨rfl, hb⟩
                  replace hB := hB.trans (hb.mono hB.size)
                  clear hb
                  go_wp2_with fail
                  refine (t2 _).mono ?_
                  rintro e wm ⟨rfl, hb⟩
                  replace hB := hB.trans (hb.mono hB.size)
                  clear hb
                  go_wp2_with fail
                  refine (tm _).mono ?_
                  rintro e wm ⟨rfl, hb⟩
                  replace hB := hB.trans (hb.mono hB.size)
                  clear hb
                  go_upto_region 27 with (fail)
                  have hcls : (48 ≤ c ∧ c ≤ 57) ∨ (97 ≤ c ∧ c ≤ 102) ∨ (dig u.toNat = 99 ∧ (c < 48 ∨ (57 < c ∧ c < 97) ∨ 102 < c)) := by
                    by_cases h1 : 48 ≤ c ∧ c ≤ 57
                    · exact .inl h1
                    · by_cases h2 : 97 ≤ c ∧ c ≤ 102
                      · exact .inr (.inl h2)
                      · refine .inr (.inr ⟨?_, by omega⟩)
                        rw [hu]; unfold dig; rw [if_neg h1, if_neg h2]
                  rcases hcls with ⟨g1, g2⟩ | ⟨g1, g2⟩ | ⟨g99, hcls⟩
                  · have g1I : (48 : Int) ≤ (c : Int) := by omega
                    have g2I : (c : Int) ≤ 57 := by omega
                    clear s10 s16 s2
                    go_wp2_with fail
                    go_ret
                    exact ⟨rfl, hB⟩
                  · have g1I : (97 : Int) ≤ (c : Int) := by omega
                    have g2I : (c : Int) ≤ 102 := by omega
                    have g3I : (48 : Int) ≤ (c : Int) := by omega
                    have g4 : decide ((c : Int) ≤ 57) = false := by simp; omega
                    clear s10 s16 s2
                    go_wp2_with fail
                    go_ret
                    exact ⟨rfl, hB⟩
                  · have s10 := s10 g99
                    have s16 := s16 g99
                    have s2 := s2 g99
                    have hcv := fun W => bytes_one W (c : Int) u (by rw [hu])
                    rcases hcls with g | ⟨g, g'⟩ | g
                    · have g1 : decide ((48 : Int) ≤ (c : Int)) = false := by simp; omega
                      have g2 : decide ((97 : Int) ≤ (c : Int)) = false := by simp; omega
                      go_wp2_with fail
                      refine (s10 _).mono ?_
                      rintro e wm' ⟨rfl, hb⟩
                      replace hB := (hB.alloc hB.size _).trans (hb.mono (by have := hB.size; simp; omega))
                      clear hb
                      go_wp2_with fail
                      refine (s16 _).mono ?_
                      rintro e wm ⟨rfl, hb⟩
                      replace hB := hB.trans (hb.mono hB.size)
                      clear hb
                      go_wp2_with fail
                      refine (s2 _).mono ?_
                      rintro e wm ⟨rfl, hb⟩
                      replace hB := hB.trans (hb.mono hB.size)
                      clear hb
                      go_wp2_with fail
                      go_ret
                      exact ⟨rfl, hB⟩
                    · have g1 : (48 : Int) ≤ (c : Int) := by omega
                      have g2 : decide ((c : Int) ≤ 57) = false := by simp; omega
                      have g3 : decide ((97 : Int) ≤ (c : Int)) = false := by simp; omega
                      go_wp2_with fail
                      refine (s10 _).mono ?_
                      rintro e wm' ⟨rfl, hb⟩
                      replace hB := (hB.alloc hB.size _).trans (hb.mono (by have := hB.size; simp; omega))
                      clear hb
                      go_wp2_with fail
                      refine (s16 _).mono ?_
                      rintro e wm ⟨rfl, hb⟩
                      replace hB := hB.trans (hb.mono hB.size)
                      clear hb
                      go_wp2_with fail
                      refine (s2 _).mono ?_
                      rintro e wm ⟨rfl, hb⟩
                      replace hB := hB.trans (hb.mono hB.size)
                      clear hb
                      go_wp2_with fail
                      go_ret
                      exact ⟨rfl, hB⟩
                    · have g1 : (48 : Int) ≤ (c : Int) := by omega
                      have g2 : decide ((c : Int) ≤ 57) = false := by simp; omega
                      have g3 : (97 : Int) ≤ (c : Int) := by omega
                      have g4 : decide ((c : Int) ≤ 102) = false := by simp; omega
                      go_wp2_with fail
                      refine (s10 _).mono ?_
                      rintro e wm' ⟨rfl, hb⟩
                      replace hB := (hB.alloc hB.size _).trans (hb.mono (by have := hB.size; simp; omega))
                      clear hb
                      go_wp2_with fail
                      refine (s16 _).mono ?_
                      rintro e wm ⟨rfl, hb⟩
                      replace hB := hB.trans (hb.mono hB.size)
                      clear hb
                      go_wp2_with fail
                      refine (s2 _).mono ?_
                      rintro e wm ⟨rfl, hb⟩
                      replace hB := hB.trans (hb.mono hB.size)
                      clear hb
                      go_wp2_with fail
                      go_ret
                      exact ⟨rfl, hB⟩
                · have hLI : ¬ (m : Int) ≤ 32768 := by omega
                  clear n10 nm n16 n2 p10 p16 p2 q16 q2 qm r10 r16 r2 z16 z2 zm y10 y16 y2 v10 ne10 hh
                  go_wp2_with fail
                  refine (t10 _).mono ?_
                  rintro e wm ⟨rfl, hb⟩
                  replace hB := hB.trans (hb.mono hB.size)
                  clear hb
                  go_wp2_with fail
                  refine (t16 _).mono ?_
                  rintro e wm ⟨rfl, hb⟩
                  replace hB := hB.trans (hb.mono hB.size)
                  clear hb
                  go_wp2_with fail
                  refine (t2 _).mono ?_
                  rintro e wm ⟨rfl, hb⟩
                  replace hB := hB.trans (hb.mono hB.size)
                  clear hb
                  go_upto_region 27 with (fail)
                  have hcls : (48 ≤ c ∧ c ≤ 57) ∨ (97 ≤ c ∧ c ≤ 102) ∨ (dig u.toNat = 99 ∧ (c < 48 ∨ (57 < c ∧ c < 97) ∨ 102 < c)) := by
                    by_cases h1 : 48 ≤ c ∧ c ≤ 57
                    · exact .inl h1
                    · by_cases h2 : 97 ≤ c ∧ c ≤ 102
                      · exact .inr (.inl h2)
                      · refine .inr (.inr ⟨?_, by omega⟩)
                        rw [hu]; unfold dig; rw [if_neg h1, if_neg h2]
                  rcases hcls with ⟨g1, g2⟩ | ⟨g1, g2⟩ | ⟨g99, hcls⟩
                  · have g1I : (48 : Int) ≤ (c : Int) := by omega
                    have g2I : (c : Int) ≤ 57 := by omega
                    clear s10 s16 s2
                    go_wp2_with fail
                    go_ret
                    exact ⟨rfl, hB⟩
                  · have g1I : (97 : Int) ≤ (c : Int) := by omega
                    have g2I : (c : Int) ≤ 102 := by omega
                    have g3I : (48 : Int) ≤ (c : Int) := by omega
                    have g4 : decide ((c : Int) ≤ 57) = false := by simp; omega
                    clear s10 s16 s2
                    go_wp2_with fail
                    go_ret
                    exact ⟨rfl, hB⟩
                  · have s10 := s10 g99
                    have s16 := s16 g99
                    have s2 := s2 g99
                    have hcv := fun W => bytes_one W (c : Int) u (by rw [hu])
                    rcases hcls with g | ⟨g, g'⟩ | g
                    · have g1 : decide ((48 : Int) ≤ (c : Int)) = false := by simp; omega
                      have g2 : decide ((97 : Int) ≤ (c : Int)) = false := by simp; omega
                      go_wp2_with fail
                      refine (s10 _).mono ?_
                      rintro e wm' ⟨rfl, hb⟩
                      replace hB := (hB.alloc hB.size _).trans (hb.mono (by have := hB.size; simp; omega))
                      clear hb
                      go_wp2_with fail
                      refine (s16 _).mono ?_
                      rintro e wm ⟨rfl, hb⟩
                      replace hB := hB.trans (hb.mono hB.size)
                      clear hb
                      go_wp2_with fail
                      refine (s2 _).mono ?_
                      rintro e wm ⟨rfl, hb⟩
                      replace hB := hB.trans (hb.mono hB.size)
                      clear hb
                      go_wp2_with fail
                      go_ret
                      exact ⟨rfl, hB⟩
                    · have g1 : (48 : Int) ≤ (c : Int) := by omega
                      have g2 : decide ((c : Int) ≤ 57) = false := by simp; omega
                      have g3 : decide ((97 : Int) ≤ (c : Int)) = false := by simp; omega
                      go_wp2_with fail
                      refine (s10 _).mono ?_
                      rintro e wm' ⟨rfl, hb⟩
                      replace hB := (hB.alloc hB.size _).trans (hb.mono (by have := hB.size; simp; omega))
                      clear hb
                      go_wp2_with fail
                      refine (s16 _).mono ?_
                      rintro e wm ⟨rfl, hb⟩
                      replace hB := hB.trans (hb.mono hB.size)
                      clear hb
                      go_wp2_with fail
                      refine (s2 _).mono ?_
                      rintro e wm ⟨rfl, hb⟩
                      replace hB := hB.trans (hb.mono hB.size)
                      clear hb
                      go_wp2_with fail
                      go_ret
                      exact ⟨rfl, hB⟩
                    · have g1 : (48 : Int) ≤ (c : Int) := by omega
                      have g2 : decide ((c : Int) ≤ 57) = false := by simp; omega
                      have g3 : (97 : Int) ≤ (c : Int) := by omega
                      have g4 : decide ((c : Int) ≤ 102) = false := by simp; omega
                      go_wp2_with fail
                      refine (s10 _).mono ?_
                      rintro e wm' ⟨rfl, hb⟩
                      replace hB := (hB.alloc hB.size _).trans (hb.mono (by have := hB.size; simp; omega))
                      clear hb
                      go_wp2_with fail
                      refine (s16 _).mono ?_
                      rintro e wm ⟨rfl, hb⟩
                      replace hB := hB.trans (hb.mono hB.size)
                      clear hb
                      go_wp2_with fail
                      refine (s2 _).mono ?_
                      rintro e wm ⟨rfl, hb⟩
                      replace hB := hB.trans (hb.mono hB.size)
                      clear hb
                      go_wp2_with fail
                      go_ret
                      exact ⟨rfl, hB⟩
              · obtain ⟨a10, b10⟩ := numC_out n10 (by omega)
                obtain ⟨a16, b16⟩ := numC_out n16 (by omega)
                obtain ⟨a2, b2⟩ := numC_out n2 (by omega)
                have t10 : ∀ W : World, Calls Tryd.prog 11 #[.string S10, .int .u16 0, .int .i64 21] W fun e w' => e = .returned (.bool true) ∧ Below W.heap.size W w' := fun W => told_yes _ _ _ (small_max _ (by omega)) W a10 b10
                have t16 : ∀ W : World, Calls Tryd.prog 11 #[.string (⟨#[36]⟩ ++ S16 : ByteArray), .int .u16 0, .int .i64 21] W fun e w' => e = .returned (.bool true) ∧ Below W.heap.size W w' := fun W => told_yes _ _ _ z16 W (by rw [q16]; exact a16) (by rw [q16]; exact b16)
                have t2 : ∀ W : World, Calls Tryd.prog 11 #[.string (⟨#[37]⟩ ++ S2 : ByteArray), .int .u16 0, .int .i64 21] W fun e w' => e = .returned (.bool true) ∧ Below W.heap.size W w' := fun W => told_yes _ _ _ z2 W (by rw [q2]; exact a2) (by rw [q2]; exact b2)
                have hAI : (65535 : Int) < (m : Int) := by omega
                have hLI : ¬ (m : Int) ≤ 32768 := by omega
                clear a10 b10 a16 b16 a2 b2
                clear n10 nm n16 n2 p10 p16 p2 q16 q2 qm r10 r16 r2 z16 z2 zm y10 y16 y2 v10 ne10 hh
                go_wp2_with fail
                refine (t10 _).mono ?_
                rintro e wm ⟨rfl, hb⟩
                replace hB := hB.trans (hb.mono hB.size)
                clear hb
                go_wp2_with fail
                refine (t16 _).mono ?_
                rintro e wm ⟨rfl, hb⟩
                replace hB := hB.trans (hb.mono hB.size)
                clear hb
                go_wp2_with fail
                refine (t2 _).mono ?_
                rintro e wm ⟨rfl, hb⟩
                replace hB := hB.trans (hb.mono hB.size)
                clear hb
                go_upto_region 27 with (fail)
                have hcls : (48 ≤ c ∧ c ≤ 57) ∨ (97 ≤ c ∧ c ≤ 102) ∨ (dig u.toNat = 99 ∧ (c < 48 ∨ (57 < c ∧ c < 97) ∨ 102 < c)) := by
                  by_cases h1 : 48 ≤ c ∧ c ≤ 57
                  · exact .inl h1
                  · by_cases h2 : 97 ≤ c ∧ c ≤ 102
                    · exact .inr (.inl h2)
                    · refine .inr (.inr ⟨?_, by omega⟩)
                      rw [hu]; unfold dig; rw [if_neg h1, if_neg h2]
                rcases hcls with ⟨g1, g2⟩ | ⟨g1, g2⟩ | ⟨g99, hcls⟩
                · have g1I : (48 : Int) ≤ (c : Int) := by omega
                  have g2I : (c : Int) ≤ 57 := by omega
                  clear s10 s16 s2
                  go_wp2_with fail
                  go_ret
                  exact ⟨rfl, hB⟩
                · have g1I : (97 : Int) ≤ (c : Int) := by omega
                  have g2I : (c : Int) ≤ 102 := by omega
                  have g3I : (48 : Int) ≤ (c : Int) := by omega
                  have g4 : decide ((c : Int) ≤ 57) = false := by simp; omega
                  clear s10 s16 s2
                  go_wp2_with fail
                  go_ret
                  exact ⟨rfl, hB⟩
                · have s10 := s10 g99
                  have s16 := s16 g99
                  have s2 := s2 g99
                  have hcv := fun W => bytes_one W (c : Int) u (by rw [hu])
                  rcases hcls with g | ⟨g, g'⟩ | g
                  · have g1 : decide ((48 : Int) ≤ (c : Int)) = false := by simp; omega
                    have g2 : decide ((97 : Int) ≤ (c : Int)) = false := by simp; omega
                    go_wp2_with fail
                    refine (s10 _).mono ?_
                    rintro e wm' ⟨rfl, hb⟩
                    replace hB := (hB.alloc hB.size _).trans (hb.mono (by have := hB.size; simp; omega))
                    clear hb
                    go_wp2_with fail
                    refine (s16 _).mono ?_
                    rintro e wm ⟨rfl, hb⟩
                    replace hB := hB.trans (hb.mono hB.size)
                    clear hb
                    go_wp2_with fail
                    refine (s2 _).mono ?_
                    rintro e wm ⟨rfl, hb⟩
                    replace hB := hB.trans (hb.mono hB.size)
                    clear hb
                    go_wp2_with fail
                    go_ret
                    exact ⟨rfl, hB⟩
                  · have g1 : (48 : Int) ≤ (c : Int) := by omega
                    have g2 : decide ((c : Int) ≤ 57) = false := by simp; omega
                    have g3 : decide ((97 : Int) ≤ (c : Int)) = false := by simp; omega
                    go_wp2_with fail
                    refine (s10 _).mono ?_
                    rintro e wm' ⟨rfl, hb⟩
                    replace hB := (hB.alloc hB.size _).trans (hb.mono (by have := hB.size; simp; omega))
                    clear hb
                    go_wp2_with fail
                    refine (s16 _).mono ?_
                    rintro e wm ⟨rfl, hb⟩
                    replace hB := hB.trans (hb.mono hB.size)
                    clear hb
                    go_wp2_with fail
                    refine (s2 _).mono ?_
                    rintro e wm ⟨rfl, hb⟩
                    replace hB := hB.trans (hb.mono hB.size)
                    clear hb
                    go_wp2_with fail
                    go_ret
                    exact ⟨rfl, hB⟩
                  · have g1 : (48 : Int) ≤ (c : Int) := by omega
                    have g2 : decide ((c : Int) ≤ 57) = false := by simp; omega
                    have g3 : (97 : Int) ≤ (c : Int) := by omega
                    have g4 : decide ((c : Int) ≤ 102) = false := by simp; omega
                    go_wp2_with fail
                    refine (s10 _).mono ?_
                    rintro e wm' ⟨rfl, hb⟩
                    replace hB := (hB.alloc hB.size _).trans (hb.mono (by have := hB.size; simp; omega))
                    clear hb
                    go_wp2_with fail
                    refine (s16 _).mono ?_
                    rintro e wm ⟨rfl, hb⟩
                    replace hB := hB.trans (hb.mono hB.size)
                    clear hb
                    go_wp2_with fail
                    refine (s2 _).mono ?_
                    rintro e wm ⟨rfl, hb⟩
                    replace hB := hB.trans (hb.mono hB.size)
                    clear hb
                    go_wp2_with fail
                    go_ret
                    exact ⟨rfl, hB⟩
end Go.Proofs.YtnoedlcdcoeokaaDoor
