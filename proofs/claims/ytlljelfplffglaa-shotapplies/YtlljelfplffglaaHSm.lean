import Derived.Test.YtlljelfplffglaaHCAp
/-! The statement's own same. -/
namespace Go.Proofs.Ytlljelfplffglaa.H
open Go.RowKit
open Go.Proofs
open Go.Proofs.Ytlljelfplffglaa.K
set_option linter.unusedVariables false
set_option linter.unusedSimpArgs false
set_option maxHeartbeats 2000000
set_option maxRecDepth 100000
theorem ls_at {W : World} {p : Option Addr} {l : List Ch} (h : S.Sl eC 4 W p l) (k : Nat) (hk : k < l.length) : ∃ b o, p = some ⟨b, o, none⟩ ∧ W.cell? ⟨b, o + k * 4, none⟩ = some (.int .i64 l[k].x) ∧ W.cell? ⟨b, o + k * 4 + 1, none⟩ = some (.int .i64 l[k].y) ∧ W.cell? ⟨b, o + k * 4 + 2, none⟩ = some (.int .u8 (l[k].o.toNat : Int)) ∧ W.cell? ⟨b, o + k * 4 + 3, none⟩ = some (.int .u8 (l[k].n.toNat : Int)) := by
  obtain ⟨b, o, e, hc⟩ := h k l[k] (List.getElem?_eq_getElem hk)
  exact ⟨b, o, e, by simpa using hc 0 _ rfl, hc 1 _ rfl, hc 2 _ rfl, hc 3 _ rfl⟩
theorem same_any (va vb : Value) (l : List Ch) (hl : l.length ≤ 281474976710656) (w : World) (ha : S.Ls eC 4 w va l) (hb : S.Ls eC 4 w vb l) :
    Calls Try.prog 15 #[va, vb] w fun e w' => e = .returned (.bool true) ∧ ∃ q, w' = w.drewN q := by
  obtain ⟨pa, ca, rfl, hca, hsa⟩ := ha.ex
  obtain ⟨pb, cb, rfl, hcb, hsb⟩ := hb.ex
  clear ha hb
  go_enter Try.func15, Try.ntmps15
  go_wp2
  go_loopw [5] (fun i wr => ∃ k q : Nat, k ≤ l.length ∧ i = .int .i64 (k : Int) ∧ wr = w.drewN q) (fun i _ => l.length - (intOf i).toNat)
  case atStart => exact ⟨0, 0, by omega, rfl, rfl⟩
  case round =>
    obtain ⟨k, q, hk, rfl, rfl⟩ := hrel
    by_cases hlt : k < l.length
    · have i1 : (k : Int) < l.length := by omega
      obtain ⟨b, o, rfl, a0, a1, a2, a3⟩ := ls_at hsa k hlt
      obtain ⟨b', o', rfl, b0, b1, b2, b3⟩ := ls_at hsb k hlt
      generalize l[k].x = X at *
      generalize l[k].y = Y at *
      generalize l[k].o.toNat = O at *
      generalize l[k].n.toNat = N at *
      go_wp2_with fail
      go_quiet (fail)
      go_wp2
      go_roundw
      case rel => exact ⟨k + 1, _, by omega, by go_num, rfl⟩
      case measure => simp [intOf]; omega
    · obtain rfl : k = l.length := by omega
      go_wp2
      go_ret
      exact ⟨rfl, _, rfl⟩
end Go.Proofs.Ytlljelfplffglaa.H
