import Derived.Test.YtokhlcioekbjdaaKScan
import Derived.Laws.StructEq
import Derived.Deep.QuietTactic
import Derived.BigQuiet
/-! Tokens as equal; the reference's Same. -/
namespace Go.Proofs.Ytokhlcioekbjdaa.K
open Go.RowKit
open Go.Proofs
open Go.Proofs.Ytokhlcioekbjdaa
set_option linter.unusedVariables false
set_option linter.unusedSimpArgs false
set_option maxHeartbeats 2000000
set_option maxRecDepth 100000

theorem posF : Try.prog.underlying 24 = some (.struct (Try.prog.fieldsOf 24)) ∧ Try.prog.fieldsOf 24 = #[⟨ "Line", 3, 0, false, "", "", 0⟩, ⟨ "Col", 3, 1, false, "", "", 8⟩] ∧ Try.prog.stoodInHeld 24 = false ∧ Try.prog.cellsOf 3 = 1 :=
  ⟨by kernel_rfl, by kernel_rfl, by kernel_rfl, by kernel_rfl⟩
theorem tokF : Try.prog.underlying 30 = some (.struct (Try.prog.fieldsOf 30)) ∧ Try.prog.fieldsOf 30 = #[⟨ "Kind", 3, 0, false, "", "", 0⟩, ⟨ "Text", 9, 1, false, "", "", 8⟩, ⟨ "Value", 28, 2, false, "", "", 24⟩, ⟨ "Pos", 24, 3, false, "", "", 32⟩] ∧ Try.prog.stoodInHeld 30 = false ∧ Try.prog.cellsOf 3 = 1 ∧ Try.prog.cellsOf 9 = 1 ∧ Try.prog.cellsOf 28 = 1 ∧ Try.prog.cellsOf 24 = 2 :=
  ⟨by kernel_rfl, by kernel_rfl, by kernel_rfl, by kernel_rfl, by kernel_rfl, by kernel_rfl, by kernel_rfl⟩
theorem eqPos (W : World) (d : Nat) (a b : Int) : (Op.equalIn (d + 2) 24 (.agg #[.int .i64 a, .int .i64 b]) (.agg #[.int .i64 a, .int .i64 b])).run Try.prog W = .ok true W := by
  obtain ⟨hs, hf, hp, k3⟩ := posF
  rw [run_equalIn_agg W (d + 1) _ _ _ hs hp, hf]
  simp [go_sem, Try.underlying3, k3, Result.andThen]
theorem neq_pos (W : World) (a b : Int) : (binOp .neq 24 (.agg #[.int .i64 a, .int .i64 b]) (.agg #[.int .i64 a, .int .i64 b])).run Try.prog W = .ok (.bool false) W := by
  rw [run_neq_struct, eqPos W 9998]; rfl
theorem eql_pos (W : World) (a b : Int) : (binOp .eql 24 (.agg #[.int .i64 a, .int .i64 b]) (.agg #[.int .i64 a, .int .i64 b])).run Try.prog W = .ok (.bool true) W := by
  rw [run_eql_struct, eqPos W 9998]; rfl
theorem eqTok (W : World) (k : Int) (t : ByteArray) (v a b : Int) : (Op.equalIn 10000 30 (.agg #[.int .i64 k, .string t, .int .u16 v, .int .i64 a, .int .i64 b]) (.agg #[.int .i64 k, .string t, .int .u16 v, .int .i64 a, .int .i64 b])).run Try.prog W = .ok true W := by
  obtain ⟨hs, hf, hp, k3, k9, k16, kp⟩ := tokF
  rw [run_equalIn_agg W 9999 _ _ _ hs hp, hf]
  have hq := eqPos W 9997 a b
  simp [go_sem, Try.underlying3, Try.underlying9, Try.underlying28, k3, k9, k16, kp, Result.andThen, hq]
theorem neq_tok (W : World) (k : Int) (t : ByteArray) (v a b : Int) : (binOp .neq 30 (.agg #[.int .i64 k, .string t, .int .u16 v, .int .i64 a, .int .i64 b]) (.agg #[.int .i64 k, .string t, .int .u16 v, .int .i64 a, .int .i64 b])).run Try.prog W = .ok (.bool false) W := by
  rw [run_neq_struct, eqTok]; rfl
theorem sl_tok {W : World} {p : Option Addr} {ts : List Tk} (h : S.Sl eT 5 W p ts) (i : Nat) (t : Tk) (hi : ts[i]? = some t) : ∃ b o, p = some ⟨b, o, none⟩ ∧ W.cell? ⟨b, o + i * 5, none⟩ = some (.int .i64 t.k) ∧ W.cell? ⟨b, o + i * 5 + 1, none⟩ = some (.string t.t) ∧ W.cell? ⟨b, o + i * 5 + 2, none⟩ = some (.int .u16 t.v) ∧ W.cell? ⟨b, o + i * 5 + 3, none⟩ = some (.int .i64 t.p.1) ∧ W.cell? ⟨b, o + i * 5 + 4, none⟩ = some (.int .i64 t.p.2) := by
  obtain ⟨b, o, e1, e2⟩ := h i t hi
  exact ⟨b, o, e1, e2 0 _ rfl, e2 1 _ rfl, e2 2 _ rfl, e2 3 _ rfl, e2 4 _ rfl⟩
theorem below_drewN (w : World) (n : Nat) : Below w.heap.size w (w.drewN n) := ⟨rfl, rfl, rfl, Nat.le_refl _, fun _ _ => rfl⟩
theorem same_any (ts : List Tk) (hn : ts.length ≤ 65536) (va vb : Value) (w : World) (ha : S.Ls eT 5 w va ts) (hb : S.Ls eT 5 w vb ts) :
    Calls Try.prog 16 #[va, vb] w fun e w' => e = .returned (.bool true) ∧ Below w.heap.size w w' := by
  obtain ⟨pa, ca, rfl, hca, hsa⟩ := ha.ex
  obtain ⟨pb, cb, rfl, hcb, hsb⟩ := hb.ex
  have HA := hid hsa
  have HB := hid hsb
  clear ha hb hsa hsb
  go_enter Try.func16, Try.ntmps16
  go_wp2_with fail
  go_loopw [5] (fun x wr => ∃ k : Nat, x = .int .i64 (k : Int) ∧ k ≤ ts.length ∧ Below w.heap.size w wr) (fun x _ => ts.length - (Lib.intOf x).toNat)
  case atStart => exact ⟨0, rfl, Nat.zero_le _, Below.refl _ _⟩
  case round =>
    obtain ⟨k, rfl, hk, hW⟩ := hrel
    by_cases hlt : k < ts.length
    · have i1 : (k : Int) < (ts.length : Int) := by omega
      obtain ⟨b1, o1, rfl, a0, a1, a2, a3, a4⟩ := sl_tok (HA.out.below hW) k ts[k] (List.getElem?_eq_getElem hlt)
      obtain ⟨b2, o2, rfl, d0, d1, d2, d3, d4⟩ := sl_tok (HB.out.below hW) k ts[k] (List.getElem?_eq_getElem hlt)
      have HW := hid hW
      have hne := fun W => neq_tok W ts[k].k ts[k].t ts[k].v ts[k].p.1 ts[k].p.2
      clear hW
      generalize ts[k] = t at *
      obtain ⟨tk, tt, tv, tp⟩ := t
      simp only at *
      go_wp2_with fail
      go_quiet (fail)
      go_wp2_with fail
      go_roundw
      case rel => exact ⟨k + 1, by simp, by omega, trB HW.out (below_drewN _ _) HW.out.size⟩
      case measure => simp only [Lib.intOf]; omega
    · obtain rfl : k = ts.length := by omega
      go_wp2_with fail
      go_ret
      exact ⟨rfl, hW⟩
end Go.Proofs.Ytokhlcioekbjdaa.K
