import Derived.Test.YtgponcjjnjpfkaaGreatLBorn
import Derived.Test.YtgponcjjnjpfkaaGreatLLawK
import Derived.Test.YtgponcjjnjpfkaaGreatPTab
/-! Do without a stack or a memory, and of what is not plain. -/
namespace Go.Proofs.YtgponcjjnjpfkaaGreat.L
open Go.RowKit
open Go.Proofs
open P
set_option linter.unusedVariables false
set_option linter.unusedSimpArgs false
theorem plain_at (x : Nat) (h1 : 1 ≤ x) (h2 : x < 64) (w : World) : Calls Tryz.prog 27 #[.int .i64 (x : Int)] w fun e w' => e = .returned (.bool (plain (x : Int))) ∧ Below w.heap.size w w' := by
  rcases num_cases x h1 h2 with rfl | rfl | rfl | rfl | rfl | rfl | rfl | rfl | rfl | rfl | rfl | rfl | rfl | rfl | rfl | rfl | rfl | rfl | rfl | rfl | rfl | rfl | rfl | rfl | rfl | rfl | rfl | rfl | rfl | rfl | rfl | rfl | rfl | rfl | rfl | rfl | rfl | rfl | rfl | rfl | rfl | rfl | rfl | rfl | rfl | rfl | rfl | rfl | rfl | rfl | rfl | rfl | rfl | rfl | rfl | rfl | rfl | rfl | rfl | rfl | rfl | rfl | rfl
  · exact plain_no _ _ _ _ _ _ _ _ _ _ ent_1 w
  · exact plain_no _ _ _ _ _ _ _ _ _ _ ent_2 w
  · exact plain_no _ _ _ _ _ _ _ _ _ _ ent_3 w
  · exact plain_no _ _ _ _ _ _ _ _ _ _ ent_4 w
  · exact plain_no _ _ _ _ _ _ _ _ _ _ ent_5 w
  · exact plain_yes _ _ _ _ _ _ _ _ _ _ _ ent_6 w
  · exact plain_no _ _ _ _ _ _ _ _ _ _ ent_7 w
  · exact plain_no _ _ _ _ _ _ _ _ _ _ ent_8 w
  · exact plain_yes _ _ _ _ _ _ _ _ _ _ _ ent_9 w
  · exact plain_no _ _ _ _ _ _ _ _ _ _ ent_10 w
  · exact plain_no _ _ _ _ _ _ _ _ _ _ ent_11 w
  · exact plain_yes _ _ _ _ _ _ _ _ _ _ _ ent_12 w
  · exact plain_yes _ _ _ _ _ _ _ _ _ _ _ ent_13 w
  · exact plain_yes _ _ _ _ _ _ _ _ _ _ _ ent_14 w
  · exact plain_yes _ _ _ _ _ _ _ _ _ _ _ ent_15 w
  · exact plain_yes _ _ _ _ _ _ _ _ _ _ _ ent_16 w
  · exact plain_yes _ _ _ _ _ _ _ _ _ _ _ ent_17 w
  · exact plain_yes _ _ _ _ _ _ _ _ _ _ _ ent_18 w
  · exact plain_yes _ _ _ _ _ _ _ _ _ _ _ ent_19 w
  · exact plain_yes _ _ _ _ _ _ _ _ _ _ _ ent_20 w
  · exact plain_yes _ _ _ _ _ _ _ _ _ _ _ ent_21 w
  · exact plain_yes _ _ _ _ _ _ _ _ _ _ _ ent_22 w
  · exact plain_yes _ _ _ _ _ _ _ _ _ _ _ ent_23 w
  · exact plain_yes _ _ _ _ _ _ _ _ _ _ _ ent_24 w
  · exact plain_yes _ _ _ _ _ _ _ _ _ _ _ ent_25 w
  · exact plain_yes _ _ _ _ _ _ _ _ _ _ _ ent_26 w
  · exact plain_yes _ _ _ _ _ _ _ _ _ _ _ ent_27 w
  · exact plain_yes _ _ _ _ _ _ _ _ _ _ _ ent_28 w
  · exact plain_yes _ _ _ _ _ _ _ _ _ _ _ ent_29 w
  · exact plain_yes _ _ _ _ _ _ _ _ _ _ _ ent_30 w
  · exact plain_yes _ _ _ _ _ _ _ _ _ _ _ ent_31 w
  · exact plain_yes _ _ _ _ _ _ _ _ _ _ _ ent_32 w
  · exact plain_yes _ _ _ _ _ _ _ _ _ _ _ ent_33 w
  · exact plain_yes _ _ _ _ _ _ _ _ _ _ _ ent_34 w
  · exact plain_yes _ _ _ _ _ _ _ _ _ _ _ ent_35 w
  · exact plain_yes _ _ _ _ _ _ _ _ _ _ _ ent_36 w
  · exact plain_yes _ _ _ _ _ _ _ _ _ _ _ ent_37 w
  · exact plain_yes _ _ _ _ _ _ _ _ _ _ _ ent_38 w
  · exact plain_yes _ _ _ _ _ _ _ _ _ _ _ ent_39 w
  · exact plain_yes _ _ _ _ _ _ _ _ _ _ _ ent_40 w
  · exact plain_yes _ _ _ _ _ _ _ _ _ _ _ ent_41 w
  · exact plain_yes _ _ _ _ _ _ _ _ _ _ _ ent_42 w
  · exact plain_yes _ _ _ _ _ _ _ _ _ _ _ ent_43 w
  · exact plain_yes _ _ _ _ _ _ _ _ _ _ _ ent_44 w
  · exact plain_yes _ _ _ _ _ _ _ _ _ _ _ ent_45 w
  · exact plain_yes _ _ _ _ _ _ _ _ _ _ _ ent_46 w
  · exact plain_yes _ _ _ _ _ _ _ _ _ _ _ ent_47 w
  · exact plain_yes _ _ _ _ _ _ _ _ _ _ _ ent_48 w
  · exact plain_yes _ _ _ _ _ _ _ _ _ _ _ ent_49 w
  · exact plain_yes _ _ _ _ _ _ _ _ _ _ _ ent_50 w
  · exact plain_yes _ _ _ _ _ _ _ _ _ _ _ ent_51 w
  · exact plain_yes _ _ _ _ _ _ _ _ _ _ _ ent_52 w
  · exact plain_yes _ _ _ _ _ _ _ _ _ _ _ ent_53 w
  · exact plain_yes _ _ _ _ _ _ _ _ _ _ _ ent_54 w
  · exact plain_yes _ _ _ _ _ _ _ _ _ _ _ ent_55 w
  · exact plain_yes _ _ _ _ _ _ _ _ _ _ _ ent_56 w
  · exact plain_yes _ _ _ _ _ _ _ _ _ _ _ ent_57 w
  · exact plain_yes _ _ _ _ _ _ _ _ _ _ _ ent_58 w
  · exact plain_yes _ _ _ _ _ _ _ _ _ _ _ ent_59 w
  · exact plain_yes _ _ _ _ _ _ _ _ _ _ _ ent_60 w
  · exact plain_yes _ _ _ _ _ _ _ _ _ _ _ ent_61 w
  · exact plain_yes _ _ _ _ _ _ _ _ _ _ _ ent_62 w
  · exact plain_yes _ _ _ _ _ _ _ _ _ _ _ ent_63 w
theorem plain_out (op : Int) (h : op < 1 ∨ 64 ≤ op) : plain op = false := by
  have a : ¬ op = 6 := by omega
  have b : ¬ op = 9 := by omega
  have c : ¬ (12 ≤ op ∧ op ≤ 63) := by omega
  unfold plain
  simp only [beq_eq_false_iff_ne.2 a, beq_eq_false_iff_ne.2 b, Bool.false_or, Bool.and_eq_false_iff, decide_eq_false_iff_not]
  omega
theorem plain_any (op : Int) (w : World) : Calls Tryz.prog 27 #[.int .i64 op] w fun e w' => e = .returned (.bool (plain op)) ∧ Below w.heap.size w w' := by
  by_cases h : op < 1 ∨ 64 ≤ op
  · rw [plain_out op h]
    exact plain_no _ _ _ _ _ _ _ _ _ _ (ent_none op h) w
  · obtain ⟨x, rfl⟩ : ∃ x : Nat, op = (x : Int) := ⟨op.toNat, by omega⟩
    exact plain_at x (by omega) (by omega) w
theorem do_nil (op : Int) (d r m : Option Addr) (hn : d = none ∨ r = none ∨ m = none) (w : World) :
    Calls Tryz.prog 12 #[.int .i64 op, .pointer d, .pointer r, .pointer m] w fun e w' => e = .returned (.int .i64 6) ∧ Below w.heap.size w w' := by
  by_cases h : op < 1 ∨ 64 ≤ op
  · exact do_code _ _ _ _ _ _ _ _ _ _ (ent_none op h) d r m w
  · obtain ⟨x, rfl⟩ : ∃ x : Nat, op = (x : Int) := ⟨op.toNat, by omega⟩
    rcases num_cases x (by omega) (by omega) with rfl | rfl | rfl | rfl | rfl | rfl | rfl | rfl | rfl | rfl | rfl | rfl | rfl | rfl | rfl | rfl | rfl | rfl | rfl | rfl | rfl | rfl | rfl | rfl | rfl | rfl | rfl | rfl | rfl | rfl | rfl | rfl | rfl | rfl | rfl | rfl | rfl | rfl | rfl | rfl | rfl | rfl | rfl | rfl | rfl | rfl | rfl | rfl | rfl | rfl | rfl | rfl | rfl | rfl | rfl | rfl | rfl | rfl | rfl | rfl | rfl | rfl | rfl
    · exact do_code _ _ _ _ _ _ _ _ _ _ ent_1 d r m w
    · exact do_code _ _ _ _ _ _ _ _ _ _ ent_2 d r m w
    · exact do_code _ _ _ _ _ _ _ _ _ _ ent_3 d r m w
    · exact do_code _ _ _ _ _ _ _ _ _ _ ent_4 d r m w
    · exact do_code _ _ _ _ _ _ _ _ _ _ ent_5 d r m w
    · exact do_none _ _ _ _ _ _ _ _ _ _ _ ent_6 d r m hn w
    · exact do_code _ _ _ _ _ _ _ _ _ _ ent_7 d r m w
    · exact do_code _ _ _ _ _ _ _ _ _ _ ent_8 d r m w
    · exact do_none _ _ _ _ _ _ _ _ _ _ _ ent_9 d r m hn w
    · exact do_code _ _ _ _ _ _ _ _ _ _ ent_10 d r m w
    · exact do_code _ _ _ _ _ _ _ _ _ _ ent_11 d r m w
    · exact do_none _ _ _ _ _ _ _ _ _ _ _ ent_12 d r m hn w
    · exact do_none _ _ _ _ _ _ _ _ _ _ _ ent_13 d r m hn w
    · exact do_none _ _ _ _ _ _ _ _ _ _ _ ent_14 d r m hn w
    · exact do_none _ _ _ _ _ _ _ _ _ _ _ ent_15 d r m hn w
    · exact do_none _ _ _ _ _ _ _ _ _ _ _ ent_16 d r m hn w
    · exact do_none _ _ _ _ _ _ _ _ _ _ _ ent_17 d r m hn w
    · exact do_none _ _ _ _ _ _ _ _ _ _ _ ent_18 d r m hn w
    · exact do_none _ _ _ _ _ _ _ _ _ _ _ ent_19 d r m hn w
    · exact do_none _ _ _ _ _ _ _ _ _ _ _ ent_20 d r m hn w
    · exact do_none _ _ _ _ _ _ _ _ _ _ _ ent_21 d r m hn w
    · exact do_none _ _ _ _ _ _ _ _ _ _ _ ent_22 d r m hn w
    · exact do_none _ _ _ _ _ _ _ _ _ _ _ ent_23 d r m hn w
    · exact do_none _ _ _ _ _ _ _ _ _ _ _ ent_24 d r m hn w
    · exact do_none _ _ _ _ _ _ _ _ _ _ _ ent_25 d r m hn w
    · exact do_none _ _ _ _ _ _ _ _ _ _ _ ent_26 d r m hn w
    · exact do_none _ _ _ _ _ _ _ _ _ _ _ ent_27 d r m hn w
    · exact do_none _ _ _ _ _ _ _ _ _ _ _ ent_28 d r m hn w
    · exact do_none _ _ _ _ _ _ _ _ _ _ _ ent_29 d r m hn w
    · exact do_none _ _ _ _ _ _ _ _ _ _ _ ent_30 d r m hn w
    · exact do_none _ _ _ _ _ _ _ _ _ _ _ ent_31 d r m hn w
    · exact do_none _ _ _ _ _ _ _ _ _ _ _ ent_32 d r m hn w
    · exact do_none _ _ _ _ _ _ _ _ _ _ _ ent_33 d r m hn w
    · exact do_none _ _ _ _ _ _ _ _ _ _ _ ent_34 d r m hn w
    · exact do_none _ _ _ _ _ _ _ _ _ _ _ ent_35 d r m hn w
    · exact do_none _ _ _ _ _ _ _ _ _ _ _ ent_36 d r m hn w
    · exact do_none _ _ _ _ _ _ _ _ _ _ _ ent_37 d r m hn w
    · exact do_none _ _ _ _ _ _ _ _ _ _ _ ent_38 d r m hn w
    · exact do_none _ _ _ _ _ _ _ _ _ _ _ ent_39 d r m hn w
    · exact do_none _ _ _ _ _ _ _ _ _ _ _ ent_40 d r m hn w
    · exact do_none _ _ _ _ _ _ _ _ _ _ _ ent_41 d r m hn w
    · exact do_none _ _ _ _ _ _ _ _ _ _ _ ent_42 d r m hn w
    · exact do_none _ _ _ _ _ _ _ _ _ _ _ ent_43 d r m hn w
    · exact do_none _ _ _ _ _ _ _ _ _ _ _ ent_44 d r m hn w
    · exact do_none _ _ _ _ _ _ _ _ _ _ _ ent_45 d r m hn w
    · exact do_none _ _ _ _ _ _ _ _ _ _ _ ent_46 d r m hn w
    · exact do_none _ _ _ _ _ _ _ _ _ _ _ ent_47 d r m hn w
    · exact do_none _ _ _ _ _ _ _ _ _ _ _ ent_48 d r m hn w
    · exact do_none _ _ _ _ _ _ _ _ _ _ _ ent_49 d r m hn w
    · exact do_none _ _ _ _ _ _ _ _ _ _ _ ent_50 d r m hn w
    · exact do_none _ _ _ _ _ _ _ _ _ _ _ ent_51 d r m hn w
    · exact do_none _ _ _ _ _ _ _ _ _ _ _ ent_52 d r m hn w
    · exact do_none _ _ _ _ _ _ _ _ _ _ _ ent_53 d r m hn w
    · exact do_none _ _ _ _ _ _ _ _ _ _ _ ent_54 d r m hn w
    · exact do_none _ _ _ _ _ _ _ _ _ _ _ ent_55 d r m hn w
    · exact do_none _ _ _ _ _ _ _ _ _ _ _ ent_56 d r m hn w
    · exact do_none _ _ _ _ _ _ _ _ _ _ _ ent_57 d r m hn w
    · exact do_none _ _ _ _ _ _ _ _ _ _ _ ent_58 d r m hn w
    · exact do_none _ _ _ _ _ _ _ _ _ _ _ ent_59 d r m hn w
    · exact do_none _ _ _ _ _ _ _ _ _ _ _ ent_60 d r m hn w
    · exact do_none _ _ _ _ _ _ _ _ _ _ _ ent_61 d r m hn w
    · exact do_none _ _ _ _ _ _ _ _ _ _ _ ent_62 d r m hn w
    · exact do_none _ _ _ _ _ _ _ _ _ _ _ ent_63 d r m hn w
theorem do_not (op : Int) (hp : plain op = false) (d r m : Option Addr) (w : World) :
    Calls Tryz.prog 12 #[.int .i64 op, .pointer d, .pointer r, .pointer m] w fun e w' => e = .returned (.int .i64 6) ∧ Below w.heap.size w w' := by
  by_cases h : op < 1 ∨ 64 ≤ op
  · exact do_code _ _ _ _ _ _ _ _ _ _ (ent_none op h) d r m w
  · obtain ⟨x, rfl⟩ : ∃ x : Nat, op = (x : Int) := ⟨op.toNat, by omega⟩
    rcases num_cases x (by omega) (by omega) with rfl | rfl | rfl | rfl | rfl | rfl | rfl | rfl | rfl | rfl | rfl | rfl | rfl | rfl | rfl | rfl | rfl | rfl | rfl | rfl | rfl | rfl | rfl | rfl | rfl | rfl | rfl | rfl | rfl | rfl | rfl | rfl | rfl | rfl | rfl | rfl | rfl | rfl | rfl | rfl | rfl | rfl | rfl | rfl | rfl | rfl | rfl | rfl | rfl | rfl | rfl | rfl | rfl | rfl | rfl | rfl | rfl | rfl | rfl | rfl | rfl | rfl | rfl
    · exact do_code _ _ _ _ _ _ _ _ _ _ ent_1 d r m w
    · exact do_code _ _ _ _ _ _ _ _ _ _ ent_2 d r m w
    · exact do_code _ _ _ _ _ _ _ _ _ _ ent_3 d r m w
    · exact do_code _ _ _ _ _ _ _ _ _ _ ent_4 d r m w
    · exact do_code _ _ _ _ _ _ _ _ _ _ ent_5 d r m w
    · simp [plain] at hp
    · exact do_code _ _ _ _ _ _ _ _ _ _ ent_7 d r m w
    · exact do_code _ _ _ _ _ _ _ _ _ _ ent_8 d r m w
    · simp [plain] at hp
    · exact do_code _ _ _ _ _ _ _ _ _ _ ent_10 d r m w
    · exact do_code _ _ _ _ _ _ _ _ _ _ ent_11 d r m w
    · simp [plain] at hp
    · simp [plain] at hp
    · simp [plain] at hp
    · simp [plain] at hp
    · simp [plain] at hp
    · simp [plain] at hp
    · simp [plain] at hp
    · simp [plain] at hp
    · simp [plain] at hp
    · simp [plain] at hp
    · simp [plain] at hp
    · simp [plain] at hp
    · simp [plain] at hp
    · simp [plain] at hp
    · simp [plain] at hp
    · simp [plain] at hp
    · simp [plain] at hp
    · simp [plain] at hp
    · simp [plain] at hp
    · simp [plain] at hp
    · simp [plain] at hp
    · simp [plain] at hp
    · simp [plain] at hp
    · simp [plain] at hp
    · simp [plain] at hp
    · simp [plain] at hp
    · simp [plain] at hp
    · simp [plain] at hp
    · simp [plain] at hp
    · simp [plain] at hp
    · simp [plain] at hp
    · simp [plain] at hp
    · simp [plain] at hp
    · simp [plain] at hp
    · simp [plain] at hp
    · simp [plain] at hp
    · simp [plain] at hp
    · simp [plain] at hp
    · simp [plain] at hp
    · simp [plain] at hp
    · simp [plain] at hp
    · simp [plain] at hp
    · simp [plain] at hp
    · simp [plain] at hp
    · simp [plain] at hp
    · simp [plain] at hp
    · simp [plain] at hp
    · simp [plain] at hp
    · simp [plain] at hp
    · simp [plain] at hp
    · simp [plain] at hp
    · simp [plain] at hp
end Go.Proofs.YtgponcjjnjpfkaaGreat.L
