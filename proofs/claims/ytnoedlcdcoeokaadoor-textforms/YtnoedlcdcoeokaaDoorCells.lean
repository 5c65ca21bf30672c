import Derived.Test.YtnoedlcdcoeokaaDoorFixed
import Derived.Test.YtnoedlcdcoeokaaDoorDigits
/-! TextCells' walk. -/
namespace Go.Proofs.YtnoedlcdcoeokaaDoor
open Go.RowKit
set_option linter.unusedVariables false

theorem in_cell {l : List UInt8} {x : Nat} (hx : x < 65536) (h : numI l = some (x : Int)) : numC l = (x : Int) ∧ numE l = 0 := by
  obtain ⟨a, b⟩ := numC_in h (by omega) (by omega)
  exact ⟨by rw [a]; omega, b⟩
theorem neg_wrap (x : Nat) (hx : x < 65536) : IntKind.u16.wrap (-(x : Int)) = (((65536 - x) % 65536 : Nat) : Int) := by rw [IntKind.wrap_u16]; omega
theorem app_list (A B : ByteArray) : (A ++ B).data.toList = A.data.toList ++ B.data.toList := by rw [ByteArray.data_append, Array.toList_append]
theorem small_max (S : ByteArray) (h : S.size ≤ 1000) : S.size ≤ maxLen := by unfold maxLen; omega

set_option maxHeartbeats 1000000 in
set_option maxRecDepth 100000 in
theorem cells_any (x : Nat) (hx : x < 65536) (zeros : Int) (w : World) (hT : Tabs w) :
    Calls Tryd.prog 6 #[.int .u16 (x : Int), .int .i64 zeros] w fun e w' => e = .returned (.bool true) ∧ Below w.heap.size w w' := by
  obtain ⟨D, hD⟩ : ∃ D : ByteArray, D = ⟨(Lib.decDigits x).toArray⟩ := ⟨_, rfl⟩
  obtain ⟨E, hE⟩ : ∃ E : ByteArray, E = ⟨(hex5 x).toArray⟩ := ⟨_, rfl⟩
  have HD : Hid (D.data.toList = Lib.decDigits x) := by show _ = _; rw [hD]
  have HE : Hid (E.data.toList = hex5 x) := by show _ = _; rw [hE]
  have hDs : D.size ≤ 5 := by rw [← size_list, HD.out]; exact dec_len 4 x (by omega)
  have hEs : E.size = 5 := by rw [← size_list, HE.out]; rfl
  have c13 : ∀ W : World, Tabs W → Calls Tryd.prog 13 #[.int .u16 (x : Int)] W fun e w' => e = .returned (.string D) ∧ Below W.heap.size W w' := fun W h => by rw [hD]; exact decimal_any x hx W h
  have c14 : ∀ W : World, Tabs W → Calls Tryd.prog 14 #[.int .u16 (x : Int)] W fun e w' => e = .returned (.string E) ∧ Below W.heap.size W w' := fun W h => by rw [hE]; exact hex_any x hx W h.bru
  have c16 : ∀ W : World, Calls Tryd.prog 16 #[.int .u16 (x : Int)] W fun e w' => e = .returned (.string D) ∧ w' = W := fun W => by rw [hD]; exact rdecimal_any x hx W
  have c17 : ∀ W : World, Calls Tryd.prog 17 #[.int .u16 (x : Int)] W fun e w' => e = .returned (.string E) ∧ w' = W := fun W => by rw [hE]; exact rhex_any x hx W
  clear hD hE
  have hB := Below.refl w.heap.size w
  go_enter Tryd.func6, Tryd.ntmps6
  go_wp2_with (first
    | (go_at_call 9; refine (fixed_any _ (hT.below hB)).mono ?_; rintro e wn ⟨rfl, hb⟩; replace hB := hB.trans (hb.mono hB.size); clear hb)
    | (go_at_call 13; refine (c13 _ (hT.below hB)).mono ?_; rintro e wn ⟨rfl, hb⟩; replace hB := hB.trans (hb.mono hB.size); clear hb)
    | (go_at_call 14; refine (c14 _ (hT.below hB)).mono ?_; rintro e wn ⟨rfl, hb⟩; replace hB := hB.trans (hb.mono hB.size); clear hb)
    | (go_at_call 16; refine (c16 _).mono ?_; rintro e wn ⟨rfl, rfl⟩)
    | (go_at_call 17; refine (c17 _).mono ?_; rintro e wn ⟨rfl, rfl⟩))
  clear c13 c14 c16 c17
  go_loop [7, 8] (fun p i => ∃ (k : Nat) (P : ByteArray), k ≤ 100 ∧ i = .int .i64 k ∧ p = .string P ∧ P.data.toList = List.replicate k 48) (fun _ i => 100 - (intOf i).toNat)
  case atStart => exact ⟨0, ⟨#[]⟩, by omega, rfl, rfl, rfl⟩
  case round =>
    obtain ⟨k, P, hk, rfl, rfl, hP⟩ := hrel
    have hPs : P.size = k := by rw [← size_list, hP]; simp
    have HP : Hid (P.data.toList = List.replicate k 48) := hP
    clear hP
    by_cases hgo : (k : Int) < zeros ∧ k < 100
    · obtain ⟨hz, hk1⟩ := hgo
      have hkI : (k : Int) < 100 := by omega
      go_wp2
      go_round
      case rel =>
        refine ⟨k + 1, P ++ ⟨#[48]⟩, by omega, by go_num, rfl, ?_⟩
        rw [ByteArray.data_append, Array.toList_append, HP.out, List.replicate_succ']
      case measure => simp [intOf]; omega
    · have hex : ∀ (x : Nat), hex5 x = 36 :: [hexd (x / 4096 % 16), hexd (x / 256 % 16), hexd (x / 16 % 16), hexd (x % 16)] := fun _ => rfl
      have t1 : ∀ W : World, Calls Tryd.prog 11 #[.string D, .int .u16 (x : Int), .int .i64 0] W fun e w' => e = .returned (.bool true) ∧ Below W.heap.size W w' := fun W => by
        obtain ⟨a, b⟩ := in_cell hx (num_dec 0 x)
        exact told_yes D x 0 (small_max _ (by omega)) W (by rw [HD.out]; exact a) (by rw [HD.out]; exact b)
      have t2 : ∀ W : World, Calls Tryd.prog 11 #[.string E, .int .u16 (x : Int), .int .i64 0] W fun e w' => e = .returned (.bool true) ∧ Below W.heap.size W w' := fun W => by
        obtain ⟨a, b⟩ := in_cell hx (num_hex 0 x hx)
        exact told_yes E x 0 (small_max _ (by omega)) W (by rw [HE.out]; exact a) (by rw [HE.out]; exact b)
      have t3 : ∀ W : World, Calls Tryd.prog 11 #[.string (P ++ D), .int .u16 (x : Int), .int .i64 0] W fun e w' => e = .returned (.bool true) ∧ Below W.heap.size W w' := fun W => by
        obtain ⟨a, b⟩ := in_cell hx (num_dec k x)
        have e : (P ++ D).data.toList = List.replicate k 48 ++ Lib.decDigits x := by rw [app_list, HP.out, HD.out]
        exact told_yes _ x 0 (small_max _ (by rw [ByteArray.size_append]; omega)) W (by rw [e]; exact a) (by rw [e]; exact b)
      have t4 : ∀ W : World, Calls Tryd.prog 11 #[.string ((⟨#[36]⟩ : ByteArray) ++ P ++ E.extract 1 5), .int .u16 (x : Int), .int .i64 0] W fun e w' => e = .returned (.bool true) ∧ Below W.heap.size W w' := fun W => by
        obtain ⟨a, b⟩ := in_cell hx (num_hex k x hx)
        have he : (E.extract 1 5).data.toList = [hexd (x / 4096 % 16), hexd (x / 256 % 16), hexd (x / 16 % 16), hexd (x % 16)] := by
          have := tail_list E 36 _ (HE.out.trans (hex x))
          rw [hEs] at this; exact this
        have e : ((⟨#[36]⟩ : ByteArray) ++ P ++ E.extract 1 5).data.toList = 36 :: (List.replicate k 48 ++ [hexd (x / 4096 % 16), hexd (x / 256 % 16), hexd (x / 16 % 16), hexd (x % 16)]) := by
          rw [app_list, app_list, HP.out, he]; rfl
        exact told_yes _ x 0 (small_max _ (by rw [← size_list, e]; simp; omega)) W (by rw [e]; exact a) (by rw [e]; exact b)
      have hes : (E.extract 1 5).size = 4 := by
        have := tail_list E 36 _ (HE.out.trans (hex x))
        rw [hEs] at this
        rw [← size_list, this]; rfl
      have hneg := neg_wrap x hx
      obtain ⟨m, hm⟩ : ∃ m, m = (65536 - x) % 65536 := ⟨_, rfl⟩
      rw [← hm] at hneg
      have hm2 : m < 65536 := by omega
      obtain ⟨M, hM⟩ : ∃ M : ByteArray, M = ⟨(Lib.decDigits m).toArray⟩ := ⟨_, rfl⟩
      have HM : Hid (M.data.toList = Lib.decDigits m) := by show _ = _; rw [hM]
      have hMs : M.size ≤ 5 := by rw [← size_list, HM.out]; exact dec_len 4 m (by omega)
      have c13 : ∀ W : World, Tabs W → Calls Tryd.prog 13 #[.int .u16 (m : Int)] W fun e w' => e = .returned (.string M) ∧ Below W.heap.size W w' := fun W h => by rw [hM]; exact decimal_any m hm2 W h
      clear hM
      have e5 : ((⟨#[45]⟩ : ByteArray) ++ P ++ M).data.toList = 45 :: (List.replicate k 48 ++ Lib.decDigits m) := by rw [app_list, app_list, HP.out, HM.out]; rfl
      have hsz5 : ((⟨#[45]⟩ : ByteArray) ++ P ++ M).size ≤ maxLen := small_max _ (by
        have h1 : (⟨#[45]⟩ : ByteArray).size = 1 := rfl
        rw [ByteArray.size_append, ByteArray.size_append, h1]; omega)
      have hmin := num_minus k m
      by_cases hbig : x ≥ 32768 ∨ x = 0
      · have t5 : ∀ W : World, Calls Tryd.prog 11 #[.string ((⟨#[45]⟩ : ByteArray) ++ P ++ M), .int .u16 (x : Int), .int .i64 0] W fun e w' => e = .returned (.bool true) ∧ Below W.heap.size W w' := fun W => by
          obtain ⟨a, b⟩ := numC_in hmin (by omega) (by omega)
          exact told_yes _ x 0 hsz5 W (by rw [e5, a]; omega) (by rw [e5]; exact b)
        have hor : (32768 : Int) ≤ (x : Int) ∨ ((x : Int) < 32768 ∧ ((x : Int) == 0) = true) := by simp; omega
        clear e5 hsz5 hmin hm hbig hex
        have hcas : ((k : Int) < zeros ∧ ¬ (k : Int) < 100) ∨ ¬ (k : Int) < zeros := by omega
        clear hgo
        rcases hor with hor | ⟨hor, hor0⟩
        all_goals
          rcases hcas with ⟨hz, hk1⟩ | hz
          all_goals
            go_wp2_with fail
            refine (c13 _ (hT.below hB)).mono ?_
            rintro e wm ⟨rfl, hb⟩
            replace hB := hB.trans (hb.mono hB.size)
            clear hb
            go_wp2_with fail
            refine (t1 _).mono ?_
            rintro e wm ⟨rfl, hb⟩
            replace hB := hB.trans (hb.mono hB.size)
            clear hb
            go_wp2_with fail
            refine (t2 _).mono ?_
            rintro e wm ⟨rfl, hb⟩
            replace hB := hB.trans (hb.mono hB.size)
            clear hb
            go_wp2_with fail
            refine (t3 _).mono ?_
            rintro e wm ⟨rfl, hb⟩
            replace hB := hB.trans (hb.mono hB.size)
            clear hb
            go_wp2_with fail
            refine (t4 _).mono ?_
            rintro e wm ⟨rfl, hb⟩
            replace hB := hB.trans (hb.mono hB.size)
            clear hb
            go_wp2_with fail
            refine (t5 _).mono ?_
            rintro e wm ⟨rfl, hb⟩
            replace hB := hB.trans (hb.mono hB.size)
            clear hb
            go_wp2_with fail
            go_ret
            exact ⟨rfl, hB⟩
      · have t5 : ∀ W : World, Calls Tryd.prog 11 #[.string ((⟨#[45]⟩ : ByteArray) ++ P ++ M), .int .u16 0, .int .i64 21] W fun e w' => e = .returned (.bool true) ∧ Below W.heap.size W w' := fun W => by
          obtain ⟨a, b⟩ := numC_out hmin (by omega)
          exact told_yes _ 0 21 hsz5 W (by rw [e5, a]) (by rw [e5]; exact b)
        have hor : (x : Int) < 32768 := by omega
        have hor0 : ((x : Int) == 0) = false := by simp; omega
        have hor1 : decide ((32768 : Int) ≤ (x : Int)) = false := by simp; omega
        clear e5 hsz5 hmin hm hbig hex
        have hcas : ((k : Int) < zeros ∧ ¬ (k : Int) < 100) ∨ ¬ (k : Int) < zeros := by omega
        clear hgo
        rcases hcas with ⟨hz, hk1⟩ | hz
        all_goals
          go_wp2_with fail
          refine (c13 _ (hT.below hB)).mono ?_
          rintro e wm ⟨rfl, hb⟩
          replace hB := hB.trans (hb.mono hB.size)
          clear hb
          go_wp2_with fail
          refine (t1 _).mono ?_
          rintro e wm ⟨rfl, hb⟩
          replace hB := hB.trans (hb.mono hB.size)
          clear hb
          go_wp2_with fail
          refine (t2 _).mono ?_
          rintro e wm ⟨rfl, hb⟩
          replace hB := hB.trans (hb.mono hB.size)
          clear hb
          go_wp2_with fail
          refine (t3 _).mono ?_
          rintro e wm ⟨rfl, hb⟩
          replace hB := hB.trans (hb.mono hB.size)
          clear hb
          go_wp2_with fail
          refine (t4 _).mono ?_
          rintro e wm ⟨rfl, hb⟩
          replace hB := hB.trans (hb.mono hB.size)
          clear hb
          go_wp2_with fail
          refine (t5 _).mono ?_
          rintro e wm ⟨rfl, hb⟩
          replace hB := hB.trans (hb.mono hB.size)
          clear hb
          go_wp2_with fail
          go_ret
          exact ⟨rfl, hB⟩
end Go.Proofs.YtnoedlcdcoeokaaDoor
namespace Go.Proofs.YtnoedlcdcoeokaaDoor
open Go.RowKit
theorem cells_wf (a0 a1 : Int) (w0 : (Lit.int .u16 a0).wf = true) (w : World) (hT : Tabs w) :
    Calls Tryd.prog 6 #[.int .u16 a0, .int .i64 a1] w fun e w' => e = .returned (.bool true) ∧ Below w.heap.size w w' := by
  have hb : 0 ≤ a0 ∧ a0 ≤ 65535 := by
    have h : IntKind.u16.min ≤ a0 ∧ a0 ≤ IntKind.u16.max := by simpa [Lit.wf] using w0
    have h1 : IntKind.u16.min = 0 := by kernel_rfl
    have h2 : IntKind.u16.max = 65535 := by kernel_rfl
    omega
  obtain ⟨x, rfl⟩ := Int.eq_ofNat_of_zero_le hb.1
  exact cells_any x (by omega) a1 w hT
end Go.Proofs.YtnoedlcdcoeokaaDoor
