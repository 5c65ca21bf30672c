import Derived.Test.YtokhlcioekbjdaaKPrefix
/-! The law's offset. -/
namespace Go.Proofs.Ytokhlcioekbjdaa.K
open Go.RowKit
open Go.Proofs
open Go.Proofs.Ytokhlcioekbjdaa
open Go.Proofs.Ytokhlcioekbjdaa.T (size_list place)
set_option linter.unusedVariables false
set_option linter.unusedSimpArgs false
set_option maxHeartbeats 4000000
set_option maxRecDepth 20000

theorem offset_any (s : ByteArray) (hs : s.size ≤ 65536) (n : Nat) (hn : n ≤ s.size) (w : World) :
    Calls Try.prog 10 #[.string s, pv (place s.data.toList n)] w fun e w' => e = .returned (.int .i64 (n : Int)) ∧ Below w.heap.size w w' := by
  have hinj := fun k (hk : k ≤ s.size) => place_inj s.data.toList k n (by rw [size_list]; exact hk) (by rw [size_list]; exact hn)
  have hpl := fun k => T.place_line_pos s.data.toList k
  have hps := fun k (hk : k < s.size) => T.place_succ s.data.toList k (by rw [size_list]; exact hk)
  obtain ⟨U, hU⟩ : ∃ U, w.alloc (.cells #[.int .i64 (place s.data.toList n).1, .int .i64 (place s.data.toList n).2] 24) = U := ⟨_, rfl⟩
  have hb : Below w.heap.size w U := by rw [← hU]; exact bel_alloc w _
  have hz : U.heap[w.heap.size]? = some (.cells #[.int .i64 (place s.data.toList n).1, .int .i64 (place s.data.toList n).2] 24 (0, 0)) := by rw [← hU]; exact heap_alloc_new w _
  have q0 : U.cell? ⟨w.heap.size, 0, none⟩ = some (.int .i64 (place s.data.toList n).1) := cell_of_row _ _ 0 _ _ _ hz
  have q1 : U.cell? ⟨w.heap.size, 1, none⟩ = some (.int .i64 (place s.data.toList n).2) := cell_of_row _ _ 1 _ _ _ hz
  have HI := hid hinj
  have HP := hid hpl
  have HS := hid hps
  have HB := hid hb
  have hpn : place s.data.toList n = ((place s.data.toList n).1, (place s.data.toList n).2) := rfl
  clear hinj hpl hps hb hz
  unfold pv pc
  obtain ⟨pn, hpn2⟩ : ∃ pn, pn = place s.data.toList n := ⟨_, rfl⟩
  rw [← hpn2] at q0 q1 HI hU ⊢
  obtain ⟨x, y⟩ := pn
  simp only at q0 q1 hU ⊢
  have HPN := hid hpn2
  clear hpn hpn2
  go_enter Try.func10, Try.ntmps10
  go_wp2_with fail
  go_loopw [5, 6, 7] (fun xl xc xi wr => ∃ k : Nat, xi = .int .i64 (k : Int) ∧ k ≤ n ∧ xl = .int .i64 (place s.data.toList k).1 ∧ xc = .int .i64 (place s.data.toList k).2 ∧ wr = U) (fun _ _ xi _ => n - (Lib.intOf xi).toNat)
  case atStart => exact ⟨0, rfl, Nat.zero_le _, rfl, rfl, rfl⟩
  case round =>
    obtain ⟨k, rfl, hk, rfl, rfl, hwr⟩ := hrel
    subst hwr
    have i1 : (k : Int) ≤ s.size := by omega
    by_cases hkn : k = n
    · subst hkn
      have e1 : (place s.data.toList k).1 = x := by rw [← HPN.out]
      have e2 : (place s.data.toList k).2 = y := by rw [← HPN.out]
      rw [e1, e2]
      go_wp2_with fail
      go_ret
      exact ⟨rfl, HB.out⟩
    · have hks : k < s.size := by omega
      have hp1 := HP.out k
      have hst := HS.out k hks
      have hgk : s.data.toList[k]'(by rw [size_list]; exact hks) = s[k] := rfl
      rw [hgk] at hst
      have hne : (place s.data.toList k).1 = x → ¬ (place s.data.toList k).2 = y := fun e1 e2 => hkn (HI.out k (by omega) (by rw [← e1, ← e2]))
      have hcut : ((place s.data.toList k).1 == x) = false ∨ (((place s.data.toList k).1 == x) = true ∧ ((place s.data.toList k).2 == y) = false) := by
        by_cases e1 : (place s.data.toList k).1 = x
        · right; exact ⟨by simpa using e1, by simpa using hne e1⟩
        · left; simpa using e1
      by_cases h10 : s[k].toNat = 10
      · have hp2 : place s.data.toList (k + 1) = ((place s.data.toList k).1 + 1, 1) := by rw [hst]; unfold T.stepP; rw [if_pos h10]
        have HP2 := hid hp2
        have h10' : (s[k].toNat : Int) = 10 := by omega
        have x0 : 0 ≤ (place s.data.toList k).1 := by omega
        have x1 : (place s.data.toList k).1 ≤ 65537 := by omega
        clear hp1 hst hgk hne hp2 h10
        generalize place s.data.toList k = pk at *
        rcases hcut with c1 | ⟨c1, c2⟩
        · go_wp2_with fail
          go_roundw
          case rel => exact ⟨k + 1, by simp, by omega, by rw [HP2.out], by rw [HP2.out], trivial⟩
          case measure => simp only [Lib.intOf]; omega
        · go_wp2_with fail
          go_roundw
          case rel => exact ⟨k + 1, by simp, by omega, by rw [HP2.out], by rw [HP2.out], trivial⟩
          case measure => simp only [Lib.intOf]; omega
      · have hp2 : place s.data.toList (k + 1) = ((place s.data.toList k).1, (place s.data.toList k).2 + 1) := by rw [hst]; unfold T.stepP; rw [if_neg h10]
        have HP2 := hid hp2
        have h10' : ¬ (s[k].toNat : Int) = 10 := by omega
        have x0 : 0 ≤ (place s.data.toList k).2 := by omega
        have x1 : (place s.data.toList k).2 ≤ 65537 := by omega
        clear hp1 hst hgk hne hp2 h10
        generalize place s.data.toList k = pk at *
        rcases hcut with c1 | ⟨c1, c2⟩
        · go_wp2_with fail
          go_roundw
          case rel => exact ⟨k + 1, by simp, by omega, by rw [HP2.out], by rw [HP2.out], trivial⟩
          case measure => simp only [Lib.intOf]; omega
        · go_wp2_with fail
          go_roundw
          case rel => exact ⟨k + 1, by simp, by omega, by rw [HP2.out], by rw [HP2.out], trivial⟩
          case measure => simp only [Lib.intOf]; omega
end Go.Proofs.Ytokhlcioekbjdaa.K
