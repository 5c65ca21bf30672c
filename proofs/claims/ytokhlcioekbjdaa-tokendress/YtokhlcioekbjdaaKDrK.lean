import Derived.Test.YtokhlcioekbjdaaKLawL
import Derived.Test.YtokhlcioekbjdaaKDrM
import Derived.Laws.BytesArg
/-! The law's words, sameWords, dressed. -/
namespace Go.Proofs.Ytokhlcioekbjdaa.K
open Go.RowKit
open Go.Proofs
open Go.Proofs.Ytokhlcioekbjdaa
open Go.Proofs.Ytokhlcioekbjdaa.T (size_list numE numC)
set_option linter.unusedVariables false
set_option linter.unusedSimpArgs false
set_option maxHeartbeats 1500000
set_option maxRecDepth 20000

theorem sameWords_any (ts tm : List Tk) (hn : ts.length ≤ 65536) (hl : tm.length = ts.length) (hs : ∀ (i : Nat) (x : Tk), ts[i]? = some x → ∃ y : Tk, tm[i]? = some y ∧ x.k = y.k ∧ x.t = y.t ∧ x.v = y.v) (va vb : Value) (w : World) (ha : S.Ls eT 5 w va ts) (hb : S.Ls eT 5 w vb tm) :
    Calls Try.prog 14 #[va, vb] w fun e w' => e = .returned (.bool true) ∧ Below w.heap.size w w' := by
  obtain ⟨pa, ca, rfl, hca, hsa⟩ := ha.ex
  obtain ⟨pb, cb, rfl, hcb, hsb⟩ := hb.ex
  have HA := hid hsa
  have HB := hid hsb
  have HS := hid hs
  rw [hl]
  clear ha hb hsa hsb hs hcb hca
  go_enter Try.func14, Try.ntmps14
  go_wp2_with fail
  go_loopw [5] (fun x wr => ∃ k : Nat, x = .int .i64 (k : Int) ∧ k ≤ ts.length ∧ Below w.heap.size w wr) (fun x _ => ts.length - (Lib.intOf x).toNat)
  case atStart => exact ⟨0, rfl, Nat.zero_le _, Below.refl _ _⟩
  case round =>
    obtain ⟨k, rfl, hk, hW⟩ := hrel
    by_cases hlt : k < ts.length
    · have i1 : (k : Int) < (ts.length : Int) := by omega
      obtain ⟨y, hy, hyk, hyt, hyv⟩ := HS.out k ts[k] (List.getElem?_eq_getElem hlt)
      obtain ⟨b1, o1, rfl, a0, a1, a2, a3, a4⟩ := sl_tok (HA.out.below hW) k ts[k] (List.getElem?_eq_getElem hlt)
      obtain ⟨b2, o2, rfl, d0, d1, d2, d3, d4⟩ := sl_tok (HB.out.below hW) k y hy
      have HW := hid hW
      rw [hyk] at a0
      rw [hyt] at a1
      rw [hyv] at a2
      clear hW hyk hyt hyv hy a3 a4 d3 d4
      obtain ⟨yk, yt, yv, yp⟩ := y
      simp only at *
      go_wp2_with fail
      go_quiet (fail)
      go_wp2_with fail
      go_roundw
      case rel => exact ⟨k + 1, by simp, by omega, trB HW.out (below_drewN _ _) HW.out.size⟩
      case measure => simp only [Lib.intOf]; omega
    · obtain rfl : k = ts.length := by omega
      go_wp2_with fail
      go_ret
      exact ⟨rfl, hW⟩

theorem app_list (a b : ByteArray) : (a ++ b).data.toList = a.data.toList ++ b.data.toList := by simp
theorem app_size (a b : ByteArray) : (a ++ b).size = a.size + b.size := by simp
/-- The words of some tokens. -/
def wds (ts : List Tk) : List (List UInt8) := ts.map fun t => t.t.data.toList
theorem wds_take (ts : List Tk) (k : Nat) (h : k < ts.length) : wds (ts.take (k + 1)) = wds (ts.take k) ++ [ts[k].t.data.toList] := by
  unfold wds; rw [List.take_succ_eq_append_getElem h, List.map_append]; rfl
theorem words_any (ts : List Tk) (hn : ts.length ≤ 300) (hw : ∀ t ∈ ts, t.t.size ≤ 31) (va : Value) (sb : ByteArray) (hsb : sb.size ≤ 24) (w : World) (ha : S.Ls eT 5 w va ts) :
    Calls Try.prog 13 #[va, .string sb] w fun e w' => ∃ r : ByteArray, e = .returned (.string r) ∧ r.data.toList = Jn sb.data.toList (wds ts) ∧ Below w.heap.size w w' := by
  obtain ⟨pa, ca, rfl, hca, hsa⟩ := ha.ex
  have HA := hid hsa
  clear ha hsa hca
  go_enter Try.func13, Try.ntmps13
  go_wp2_with fail
  go_loopw [5, 6] (fun x5 x wr => ∃ (k : Nat) (r : ByteArray), x = .int .i64 (k : Int) ∧ k ≤ ts.length ∧ x5 = .string r ∧ r.data.toList = Jn sb.data.toList (wds (ts.take k)) ∧ r.size ≤ k * 55 ∧ wr = w) (fun _ x _ => ts.length - (Lib.intOf x).toNat)
  case atStart => exact ⟨0, ⟨#[]⟩, rfl, Nat.zero_le _, rfl, rfl, by decide, rfl⟩
  case round =>
    obtain ⟨k, r, rfl, hk, rfl, hr, hz, hwr⟩ := hrel
    subst hwr
    by_cases hlt : k < ts.length
    · have i1 : (k : Int) < (ts.length : Int) := by omega
      obtain ⟨b1, o1, rfl, a0, a1, a2, a3, a4⟩ := sl_tok HA.out k ts[k] (List.getElem?_eq_getElem hlt)
      have h31 := hw ts[k] (List.getElem_mem hlt)
      have hts := wds_take ts k hlt
      have hz2 : (r ++ sb).size ≤ 20000 := by rw [app_size]; omega
      have hem : wds (ts.take k) = [] ↔ k = 0 := by
        unfold wds; rw [List.map_eq_nil_iff, List.take_eq_nil_iff]
        constructor
        · rintro (h | h)
          · exact h
          · rw [h] at hlt; simp at hlt
        · intro h; exact .inl h
      by_cases hk0 : k = 0
      · have hj : (r ++ ts[k].t).data.toList = Jn sb.data.toList (wds (ts.take (k + 1))) := by
          rw [app_list, hts, jn_snoc, if_pos (hem.2 hk0), hr]; rfl
        have hjz : (r ++ ts[k].t).size ≤ (k + 1) * 55 := by rw [app_size]; omega
        have HJ := hid (And.intro hj hjz)
        have d0 : decide ((0 : Int) < (k : Int)) = false := decide_eq_false (by omega)
        clear hj hjz hts hr hem a0 a2 a3 a4
        generalize ts[k].t = tt at *
        subst hk0
        go_wp2_with fail
        go_roundw
        case rel => exact ⟨0 + 1, r ++ tt, by simp, by omega, rfl, HJ.out.1, HJ.out.2, trivial⟩
        case measure => simp only [Lib.intOf]; omega
      · have hj : ((r ++ sb) ++ ts[k].t).data.toList = Jn sb.data.toList (wds (ts.take (k + 1))) := by
          rw [app_list, app_list, hts, jn_snoc, if_neg (fun e => hk0 (hem.1 e)), hr, List.append_assoc]
        have hjz : ((r ++ sb) ++ ts[k].t).size ≤ (k + 1) * 55 := by rw [app_size, app_size]; omega
        have HJ := hid (And.intro hj hjz)
        have d0 : decide ((0 : Int) < (k : Int)) = true := decide_eq_true (by omega)
        have d1 : (0 : Int) < (k : Int) := by omega
        clear hj hjz hts hr hem a0 a2 a3 a4
        generalize ts[k].t = tt at *
        go_wp2_with fail
        go_roundw
        case rel => exact ⟨k + 1, (r ++ sb) ++ tt, by simp, by omega, rfl, HJ.out.1, HJ.out.2, trivial⟩
        case measure => simp only [Lib.intOf]; omega
    · obtain rfl : k = ts.length := by omega
      rw [List.take_length] at hr
      go_wp2_with fail
      go_ret
      exact ⟨r, rfl, hr, Below.refl _ _⟩
end Go.Proofs.Ytokhlcioekbjdaa.K
