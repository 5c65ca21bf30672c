import Derived.Test.YtmlpijjjkpnioaaDoorCRDec
import Derived.Test.YtmlpijjjkpnioaaDoorCKnownW
/-! What comes out of Decode is small. -/
namespace Go.Proofs.YtmlpijjjkpnioaaDoor.C
open Go.RowKit
open Go.Proofs
open Go.Proofs.YtmlpijjjkpnioaaDoor.K
set_option linter.unusedVariables false
set_option linter.unusedSimpArgs false
theorem dec_small (b : List UInt8) : Ints (decB b).2 ∧ (decB b).2.code.length ≤ 1048576 ∧ (decB b).2.effs.length ≤ 1048576 ∧ (decB b).2.banks.length ≤ 16 ∧ ∀ x ∈ (decB b).2.banks, x.2.length ≤ 1048576 := by
  have key : may (decB b).2 = true ∧ Fit (decB b).2 := by
    rcases dec_err b with h | ⟨_, h⟩
    · obtain ⟨h1, h2, _⟩ := enc_dec (b := b) (c := (decB b).2) (by rw [← h])
      exact ⟨h1, h2⟩
    · rw [h]; exact ⟨may0, fit0⟩
  obtain ⟨hm, hf⟩ := key
  generalize (decB b).2 = c at *
  obtain ⟨h1, h2, h3⟩ := may_parts hm
  have hb := may_many hm
  have hd := bank_dts c.banks (-1) h3
  simp only [codeB, decide_eq_true_eq] at h1
  simp only [effsB, Bool.and_eq_true, decide_eq_true_eq] at h2
  refine ⟨may_ints hm hf, by omega, by omega, by omega, fun x hx => ?_⟩
  simp only [dts, List.all_eq_true, List.mem_map] at hd
  have h4 : x.2.length ≤ 16384 := by have := hd (bsec x) ⟨x, hx, rfl⟩; simp only [bsec, datOk] at this; exact of_decide_eq_true this
  omega
end Go.Proofs.YtmlpijjjkpnioaaDoor.C
