import Derived.Test.YtmcfbcebjfeemaaBin
namespace Go.Proofs.Ytmcfbcebjfeemaa
open Go.RowKit

theorem v1 : bi 24 65529 2 = 65533 := by decide +kernel
theorem v2 : un 35 65533 = 65534 := by decide +kernel
theorem v3 : sg 65535 = -1 := by decide +kernel
theorem v4 : cl (-65537) = 65535 := by decide +kernel
theorem v5 : fl true = 65535 := by decide +kernel
theorem v6 : isBi 24 = true := by decide +kernel
theorem v7 : isUn 35 = true := by decide +kernel
theorem v8 : bi 24 32768 65535 = 32768 := by decide +kernel
theorem v9 : bi 25 32768 65535 = 0 := by decide +kernel
theorem v10 : bi 24 5 0 = 0 := by decide +kernel
theorem v11 : un 29 32768 = 32768 := by decide +kernel
theorem v12 : isBi 25 = true := by decide +kernel
theorem v13 : isUn 29 = true := by decide +kernel
theorem v14 : isUn 21 = false := by decide +kernel
theorem v15 : isBi 28 = false := by decide +kernel

set_option maxHeartbeats 400000 in
theorem fixed_any (w : World) :
    Calls Try.prog 9 #[] w fun e w' => e = .returned (.bool true) ∧ w' = w := by
  have h1 := v1
  have h2 := v2
  have h3 := v3
  have h4 := v4
  have h5 := v5
  have h6 := v6
  have h7 := v7
  go_enter Try.func9, Try.ntmps9
  go_wp2_with (first | (go_at_call 7; refine (binary_any _ _ _ (C_lit _ (by decide) (by decide)) (C_lit _ (by decide) (by decide)) _).mono ?_; rintro e w' ⟨rfl, rfl⟩) | (go_at_call 8; refine (unary_any _ _ (C_lit _ (by decide) (by decide)) _).mono ?_; rintro e w' ⟨rfl, rfl⟩) | (go_at_call 10; refine (signed_any _ (C_lit _ (by decide) (by decide)) _).mono ?_; rintro e w' ⟨rfl, rfl⟩) | (go_at_call 11; refine (cell_any _ _).mono ?_; rintro e w' ⟨rfl, rfl⟩) | (go_at_call 17; refine (flag_any _ _).mono ?_; rintro e w' ⟨rfl, rfl⟩))
  go_ret
  exact ⟨rfl, rfl⟩
set_option maxHeartbeats 400000 in
theorem names_any (w : World) :
    Calls Try.prog 3 #[] w fun e w' => e = .returned (.bool true) ∧ w' = w := by
  have h1 := v8
  have h2 := v9
  have h3 := v10
  have h4 := v11
  have h5 := v12
  have h6 := v13
  have h7 := v14
  have h8 := v15
  have h9 := v6
  go_enter Try.func3, Try.ntmps3
  go_wp2_with (first | (go_at_call 7; refine (binary_any _ _ _ (C_lit _ (by decide) (by decide)) (C_lit _ (by decide) (by decide)) _).mono ?_; rintro e w' ⟨rfl, rfl⟩) | (go_at_call 8; refine (unary_any _ _ (C_lit _ (by decide) (by decide)) _).mono ?_; rintro e w' ⟨rfl, rfl⟩) | (go_at_call 9; refine (fixed_any _).mono ?_; rintro e w' ⟨rfl, rfl⟩))
  go_ret
  exact ⟨rfl, rfl⟩
end Go.Proofs.Ytmcfbcebjfeemaa
