import Derived.Test.YtlljelfplffglabDoorHTon
/-! The reference's decimal. -/
namespace Go.Proofs.YtlljelfplffglabDoor.H
open Go.RowKit
open Go.Proofs
open Go.Proofs.YtlljelfplffglabDoor.K
set_option linter.unusedVariables false
set_option linter.unusedSimpArgs false
set_option maxHeartbeats 2000000
set_option maxRecDepth 100000
theorem dec_small (u : Nat) (h : u < 10) : Lib.decDigits u = [UInt8.ofNat (48 + u)] := by rw [Lib.decDigits, dif_pos h]
theorem dec_big (u : Nat) (h : ¬ u < 10) : Lib.decDigits u = Lib.decDigits (u / 10) ++ [UInt8.ofNat (48 + u % 10)] := by rw [Lib.decDigits, dif_neg h]
theorem str_app (a b : List UInt8) : (⟨a.toArray⟩ : ByteArray) ++ ⟨b.toArray⟩ = ⟨(a ++ b).toArray⟩ := by
  apply ByteArray.ext
  simp
theorem decn_any : ∀ (u : Nat), u ≤ 9223372036854775807 → ∀ w : World, Calls Tryd.prog 28 #[.int .i64 (u : Int)] w fun e w' => e = .returned (.string ⟨(Lib.decDigits u).toArray⟩) ∧ Below w.heap.size w w' := by
  intro u
  induction u using Nat.strongRecOn with
  | ind u ih =>
    intro hu w
    have i0 : ¬ (u : Int) < 0 := by omega
    have hd : (u : Int).tmod 10 = ((u % 10 : Nat) : Int) := by rw [Int.tmod_eq_emod_of_nonneg (by omega)]; omega
    have hd2 : (u : Int) % 10 = ((u % 10 : Nat) : Int) := by omega
    have hq : (u : Int).tdiv 10 = ((u / 10 : Nat) : Int) := by rw [Int.tdiv_eq_ediv_of_nonneg (by omega)]; omega
    have hq2 : (u : Int) / 10 = ((u / 10 : Nat) : Int) := by omega
    obtain ⟨m, hm⟩ : ∃ m, u % 10 = m := ⟨_, rfl⟩
    obtain ⟨q, hqq⟩ : ∃ q, u / 10 = q := ⟨_, rfl⟩
    have hm10 : m < 10 := by omega
    rw [hm] at hd hd2
    rw [hqq] at hq hq2
    obtain ⟨R, hR⟩ : ∃ R, UInt8.ofNat (48 + m) = R := ⟨_, rfl⟩
    have hRv : IntKind.u8.wrap (48 + (m : Int)) = (R.toNat : Int) := by rw [← hR, UInt8.toNat_ofNat_of_lt' (by show _ < 256; omega)]; simp [IntKind.wrap, IntKind.bits, IntKind.signed]; omega
    have y1 : IntKind.i64.wrap (48 + (m : Int)) = 48 + (m : Int) := by rw [IntKind.wrap_i64]; omega
    have hcv := (row_of_alloc w w.heap.size (Nat.le_refl _) [R] (by simp [maxLen])).sl.conv (by simp [maxLen])
    have hcv2 : (convert 23 9 (.slice (some ⟨w.heap.size, 0, none⟩) 1 1)).run Tryd.prog (w.alloc (.cells #[.int .u8 (R.toNat : Int)] 5)) = .ok (.string ⟨[R].toArray⟩) (w.alloc (.cells #[.int .u8 (R.toNat : Int)] 5)) := hcv
    clear hcv
    have hba : Below w.heap.size w (w.alloc (.cells #[.int .u8 (R.toNat : Int)] 5)) := (Below.refl _ _).alloc (Nat.le_refl _) _
    obtain ⟨wa, hwa⟩ : ∃ wa, w.alloc (.cells #[.int .u8 (R.toNat : Int)] 5) = wa := ⟨_, rfl⟩
    rw [hwa] at hcv2 hba
    have HBA := hid hba
    clear hba
    by_cases hs : u < 10
    · have hmu : m = u := by omega
      have hdd : Lib.decDigits u = [R] := by rw [dec_small u hs, ← hR, hmu]
      have i1 : ¬ (10 : Int) ≤ (u : Int) := by omega
      have HD := hid hdd
      clear hm hqq hR hmu hdd ih hu hs hq hq2
      go_enter Tryd.func28, Tryd.ntmps28
      go_wp2
      go_ret
      exact ⟨by rw [HD.out]; rfl, HBA.out⟩
    · have i1 : (10 : Int) ≤ (u : Int) := by omega
      have hih := ih q (by omega) (by omega) wa
      have y3 : wrap64 (q : Int) = (q : Int) := by unfold wrap64; omega
      obtain ⟨DQ, hDQ⟩ : ∃ DQ, Lib.decDigits q = DQ := ⟨_, rfl⟩
      rw [hDQ] at hih
      have hsz1 : (⟨DQ.toArray⟩ : ByteArray).size ≤ 19 := by rw [size_list, ← hDQ]; exact dec_len q 18 (by omega)
      have hsz2 : (⟨[R].toArray⟩ : ByteArray).size = 1 := by rw [size_list]; rfl
      have hdd : Lib.decDigits u = DQ ++ [R] := by rw [dec_big u hs, hqq, hm, hR, hDQ]
      have HD := hid hdd
      have hap := str_app DQ [R]
      have HAP := hid hap
      obtain ⟨SQ, hSQ⟩ : ∃ SQ : ByteArray, ⟨DQ.toArray⟩ = SQ := ⟨_, rfl⟩
      obtain ⟨SR, hSR⟩ : ∃ SR : ByteArray, ⟨[R].toArray⟩ = SR := ⟨_, rfl⟩
      rw [hSQ] at hih HAP hsz1
      rw [hSR] at hcv2 HAP hsz2
      have hsz : ¬ 9223372036854775807 < SQ.size + SR.size := by omega
      clear hsz1 hsz2
      clear hm hqq hR hdd ih hu hs hDQ hap hSQ hSR
      go_enter Tryd.func28, Tryd.ntmps28
      go_wp2_with fail
      try rw [hwa]
      refine hih.mono ?_
      rintro e w1 ⟨rfl, hb1⟩
      have HE := hid (HBA.out.trans (hb1.mono HBA.out.size))
      clear hb1 hih hwa
      go_wp2
      go_ret
      exact ⟨by rw [HD.out, ← HAP.out]; rfl, HE.out⟩
theorem dec_step (u q m : Nat) (l : List UInt8) (h : u = 10 * q + m) (hm : m < 10) (hq : 1 ≤ q) (hl : Lib.decDigits q = l) : Lib.decDigits u = l ++ [UInt8.ofNat (48 + m)] := by
  rw [dec_big u (by omega), show u / 10 = q by omega, show u % 10 = m by omega, hl]
theorem itoa_min : Lib.itoa (-9223372036854775808) = [45, 57, 50, 50, 51, 51, 55, 50, 48, 51, 54, 56, 53, 52, 55, 55, 53, 56, 48, 56] := by
  rw [Lib.itoa, if_pos (by decide)]
  have d1 : Lib.decDigits 9 = [57] := by rw [dec_small 9 (by decide)]; rfl
  have d2 : Lib.decDigits 92 = [57, 50] := dec_step 92 9 2 _ (by decide) (by decide) (by decide) d1
  have d3 : Lib.decDigits 922 = [57, 50, 50] := dec_step 922 92 2 _ (by decide) (by decide) (by decide) d2
  have d4 : Lib.decDigits 9223 = [57, 50, 50, 51] := dec_step 9223 922 3 _ (by decide) (by decide) (by decide) d3
  have d5 : Lib.decDigits 92233 = [57, 50, 50, 51, 51] := dec_step 92233 9223 3 _ (by decide) (by decide) (by decide) d4
  have d6 : Lib.decDigits 922337 = [57, 50, 50, 51, 51, 55] := dec_step 922337 92233 7 _ (by decide) (by decide) (by decide) d5
  have d7 : Lib.decDigits 9223372 = [57, 50, 50, 51, 51, 55, 50] := dec_step 9223372 922337 2 _ (by decide) (by decide) (by decide) d6
  have d8 : Lib.decDigits 92233720 = [57, 50, 50, 51, 51, 55, 50, 48] := dec_step 92233720 9223372 0 _ (by decide) (by decide) (by decide) d7
  have d9 : Lib.decDigits 922337203 = [57, 50, 50, 51, 51, 55, 50, 48, 51] := dec_step 922337203 92233720 3 _ (by decide) (by decide) (by decide) d8
  have d10 : Lib.decDigits 9223372036 = [57, 50, 50, 51, 51, 55, 50, 48, 51, 54] := dec_step 9223372036 922337203 6 _ (by decide) (by decide) (by decide) d9
  have d11 : Lib.decDigits 92233720368 = [57, 50, 50, 51, 51, 55, 50, 48, 51, 54, 56] := dec_step 92233720368 9223372036 8 _ (by decide) (by decide) (by decide) d10
  have d12 : Lib.decDigits 922337203685 = [57, 50, 50, 51, 51, 55, 50, 48, 51, 54, 56, 53] := dec_step 922337203685 92233720368 5 _ (by decide) (by decide) (by decide) d11
  have d13 : Lib.decDigits 9223372036854 = [57, 50, 50, 51, 51, 55, 50, 48, 51, 54, 56, 53, 52] := dec_step 9223372036854 922337203685 4 _ (by decide) (by decide) (by decide) d12
  have d14 : Lib.decDigits 92233720368547 = [57, 50, 50, 51, 51, 55, 50, 48, 51, 54, 56, 53, 52, 55] := dec_step 92233720368547 9223372036854 7 _ (by decide) (by decide) (by decide) d13
  have d15 : Lib.decDigits 922337203685477 = [57, 50, 50, 51, 51, 55, 50, 48, 51, 54, 56, 53, 52, 55, 55] := dec_step 922337203685477 92233720368547 7 _ (by decide) (by decide) (by decide) d14
  have d16 : Lib.decDigits 9223372036854775 = [57, 50, 50, 51, 51, 55, 50, 48, 51, 54, 56, 53, 52, 55, 55, 53] := dec_step 9223372036854775 922337203685477 5 _ (by decide) (by decide) (by decide) d15
  have d17 : Lib.decDigits 92233720368547758 = [57, 50, 50, 51, 51, 55, 50, 48, 51, 54, 56, 53, 52, 55, 55, 53, 56] := dec_step 92233720368547758 9223372036854775 8 _ (by decide) (by decide) (by decide) d16
  have d18 : Lib.decDigits 922337203685477580 = [57, 50, 50, 51, 51, 55, 50, 48, 51, 54, 56, 53, 52, 55, 55, 53, 56, 48] := dec_step 922337203685477580 92233720368547758 0 _ (by decide) (by decide) (by decide) d17
  have d19 : Lib.decDigits 9223372036854775808 = [57, 50, 50, 51, 51, 55, 50, 48, 51, 54, 56, 53, 52, 55, 55, 53, 56, 48, 56] := dec_step 9223372036854775808 922337203685477580 8 _ (by decide) (by decide) (by decide) d18
  rw [show (-9223372036854775808 : Int).natAbs = 9223372036854775808 from rfl, d19]
theorem dec_any (z : Int) (hz : inI z) (w : World) : Calls Tryd.prog 28 #[.int .i64 z] w fun e w' => e = .returned (.string ⟨(Lib.itoa z).toArray⟩) ∧ Below w.heap.size w w' := by
  unfold inI at hz
  by_cases h0 : z < 0
  · by_cases hm : z = -9223372036854775808
    · have hi := itoa_min
      rw [← hm] at hi
      have HI := hid hi
      have y1 : IntKind.i64.wrap (-z) = z := by rw [hm, IntKind.wrap_i64]; decide
      have y4 : wrap64 (-z) = z := by rw [hm]; unfold wrap64; omega
      clear hm hz hi
      go_enter Tryd.func28, Tryd.ntmps28
      go_wp2
      go_ret
      exact ⟨by rw [HI.out]; rfl, Below.refl _ _⟩
    · obtain ⟨u, hu⟩ : ∃ u : Nat, -z = (u : Int) := ⟨(-z).toNat, by omega⟩
      have hu2 : u ≤ 9223372036854775807 := by omega
      have h1 := decn_any u hu2 w
      have hi : Lib.itoa z = 45 :: Lib.decDigits u := by rw [Lib.itoa, if_pos h0, show z.natAbs = u by omega]
      have y1 : IntKind.i64.wrap (-z) = (u : Int) := by rw [hu, IntKind.wrap_i64]; omega
      have y4 : wrap64 (-z) = (u : Int) := by rw [hu]; unfold wrap64; omega
      have y5 : wrap64 (u : Int) = (u : Int) := by unfold wrap64; omega
      have y2 : (z == (u : Int)) = false := by
        have : ¬ z = (u : Int) := by omega
        simpa using this
      have y3 : ¬ z = (u : Int) := by omega
      obtain ⟨DQ, hDQ⟩ : ∃ DQ, Lib.decDigits u = DQ := ⟨_, rfl⟩
      rw [hDQ] at h1 hi
      have hsz1 : (⟨DQ.toArray⟩ : ByteArray).size ≤ 19 := by rw [size_list, ← hDQ]; exact dec_len u 18 (by omega)
      have hap := str_app [45] DQ
      have HI := hid hi
      have HAP := hid hap
      obtain ⟨SQ, hSQ⟩ : ∃ SQ : ByteArray, ⟨DQ.toArray⟩ = SQ := ⟨_, rfl⟩
      rw [hSQ] at h1 HAP hsz1
      have hsz : ¬ 9223372036854775807 < 1 + SQ.size := by omega
      have hsz3 : ¬ 9223372036854775807 < (⟨#[45]⟩ : ByteArray).size + SQ.size := by show ¬ 9223372036854775807 < 1 + SQ.size; omega
      clear hi hap hDQ hSQ hz hm hu2 hsz1
      go_enter Tryd.func28, Tryd.ntmps28
      go_wp2_with fail
      refine h1.mono ?_
      rintro e w1 ⟨rfl, hb1⟩
      have HE := hid hb1
      clear hb1 h1
      go_wp2
      go_ret
      exact ⟨by rw [HI.out, show 45 :: DQ = [45] ++ DQ from rfl, ← HAP.out]; rfl, HE.out⟩
  · obtain ⟨u, rfl⟩ : ∃ u : Nat, z = (u : Int) := ⟨z.toNat, by omega⟩
    have h1 := decn_any u (by omega) w
    rw [show Lib.itoa (u : Int) = Lib.decDigits u by rw [Lib.itoa, if_neg h0]; rfl]
    exact h1
end Go.Proofs.YtlljelfplffglabDoor.H
