import Derived.Test.YteldjmecomngeaaGreatVRLk
import Derived.Test.YteldjmecomngeaaGreatVRTk
import Derived.Test.YteldjmecomngeaaGreatVRLv
namespace Go.Proofs.YteldjmecomngeaaGreat.V
open Go.RowKit
open Go.Proofs
set_option linter.unusedVariables false
set_option linter.unusedSimpArgs false
set_option maxHeartbeats 1000000
set_option maxRecDepth 100000
def kAt (R : List (Int × Int)) (j : Nat) : Int := ((R[R.length - 1 - j]?).getD (0, 0)).1
def kdR (three : Bool) (R : List (Int × Int)) : Nat -> List Int -> Int
 | _, [] => 0
 | j, k :: t => if three = true /\ j < 2 then kdR three R (j + 1) t else if R.length <= j then 3 else if kAt R j = k then kdR three R (j + 1) t else 5
def KsV (W : World) (u : Value) (ks : List Int) : Prop := (u = .slice none 0 0 /\ ks = []) \/ ∃ gk, u = .slice (some ⟨gk, 0, none⟩) ks.length ks.length /\ ∀ (i : Nat) (k : Int), ks[i]? = some k -> W.cell? ⟨gk, i, none⟩ = some (.int .i64 k)
theorem KsV.ex {W : World} {u : Value} {ks : List Int} (h : KsV W u ks) : ∃ p, u = .slice p ks.length ks.length := by
 rcases h with ⟨h, rfl⟩ | ⟨gk, e, _⟩
 ·exact ⟨none, h⟩
 ·exact ⟨_, e⟩
theorem kinds_any (g b : Nat) (kv dv rv : Value) (F : Nat -> Prop) (v : VS) (ks : List Int) (hks : ks.length <= 3) (u : Value) (W : World) (h : RX W g b kv dv rv F v) (hu : KsV W u ks) :
  Calls Tryz.prog 105 #[.pointer (some ⟨g, 0, none⟩), u] W fun e W' => e = .returned (.int .i64 (kdR (ks.length == 3) v.R 0 ks)) /\ W' = W := by
 obtain ⟨p, rfl⟩ := hu.ex
 have c5 := h.c5
 have hrl := h.rl
 obtain ⟨q, c, hrv, _, hr⟩ := h.r.ex
 rw [hrv] at c5
 have HR : Hid _ := hr
 have HU : Hid _ := hu
 obtain ⟨n, hn⟩ : ∃ n, v.R.length = n := ⟨_, rfl⟩
 rw [hn] at c5 hrl
 have HN : Hid _ := hn
 obtain ⟨th, hth⟩ : ∃ th, (ks.length == 3) = th := ⟨_, rfl⟩
 have HTH : Hid _ := hth
 rw [hth]
 obtain ⟨res, hres⟩ : ∃ res, kdR th v.R 0 ks = res := ⟨_, rfl⟩
 rw [hres]
 have HRS : Hid _ := hres
 have hth2 : ((ks.length : Int) == 3) = th := by rw [<- hth, Bool.eq_iff_iff, beq_iff_eq, beq_iff_eq]; omega
 clear h hr hu hn hth hres
 go_enter Tryz.func105, Tryz.ntmps105
 go_wp2
 go_loopw [16] (fun i wr => ∃ k : Nat, k <= ks.length /\ i = .int .i64 (k : Int) /\ wr = W /\ kdR th v.R k (ks.drop k) = res) (fun i _ => ks.length - (intOf i).toNat)
 case atStart => exact ⟨0, by omega, rfl, rfl, by rw [List.drop_zero]; exact HRS.out⟩
 case round =>
  clear HRS; obtain ⟨k, hk, rfl, hwr, hkd⟩ := hrel; subst hwr
  by_cases hlt : k < ks.length
  case neg =>
   have e0 : res = 0 := by rw [<- hkd, List.drop_of_length_le (by omega)]; rfl
   have i1 : ¬ (k : Int) < (ks.length : Int) := by omega
   subst e0; clear hkd; go_wp2; go_ret; exact ⟨rfl, rfl⟩
  have i1 : (k : Int) < (ks.length : Int) := by omega
  obtain ⟨x, hx⟩ : ∃ x, ks[k]? = some x := ⟨_, List.getElem?_eq_getElem hlt⟩
  have hdr : ks.drop k = x :: ks.drop (k + 1) := by
   rw [List.drop_eq_getElem_cons hlt]; rw [List.getElem?_eq_getElem hlt] at hx; cases hx; rfl
  rw [hdr, kdR] at hkd
  obtain ⟨gk, hgk, hcl⟩ : ∃ gk, p = some ⟨gk, 0, none⟩ /\ wr.cell? ⟨gk, k, none⟩ = some (.int .i64 x) := by
   rcases HU.out with ⟨_, e⟩ | ⟨gk, e, hc⟩
   ·rw [e] at hlt; simp at hlt
   ·cases e; exact ⟨gk, rfl, hc k x hx⟩
  subst hgk; have HKD : Hid _ := hkd; clear hkd hdr hx
  by_cases hsk : th = true /\ k < 2
  ·obtain ⟨rfl, hk2⟩ := hsk
   have HK2 : Hid (kdR true v.R (k + 1) (ks.drop (k + 1)) = res) := by have := HKD.out; rw [if_pos ⟨rfl, hk2⟩] at this; exact this
   clear HKD
   rcases (show k = 0 \/ k = 1 by omega) with rfl | rfl
   ·go_wp2
    go_roundw
    case rel =>
     first
      | exact ⟨1, by omega, by go_num, rfl, HK2.out⟩
      | exact ⟨1, by omega, by omega, HK2.out⟩
      | exact ⟨1, by omega, rfl, trivial, HK2.out⟩
    case measure => simp [intOf]; omega
   ·go_wp2
    go_roundw
    case rel =>
     first
      | exact ⟨2, by omega, by go_num, rfl, HK2.out⟩
      | exact ⟨2, by omega, by omega, HK2.out⟩
      | exact ⟨2, by omega, rfl, trivial, HK2.out⟩
    case measure => simp [intOf]; omega
  have hkd := HKD.out; rw [if_neg hsk, HN.out] at hkd; clear HKD
  have sk : (th = false) \/ 2 <= k := by
   cases th
   ·exact .inl rfl
   ·exact .inr (by apply Decidable.byContradiction; intro c; exact hsk ⟨rfl, by omega⟩)
  have j0 : ((k : Int) == 0) = decide (k = 0) := by rw [Bool.eq_iff_iff, beq_iff_eq, decide_eq_true_iff]; omega
  have j1 : ((k : Int) == 1) = decide (k = 1) := by rw [Bool.eq_iff_iff, beq_iff_eq, decide_eq_true_iff]; omega
  have s0 : (if decide (k = 0) = true then th else false) = false := by
   rcases sk with rfl | s
   ·simp
   ·rw [decide_eq_false (show ¬ k = 0 by omega)]; rfl
  have s1 : (if decide (k = 1) = true then th else false) = false := by
   rcases sk with rfl | s
   ·simp
   ·rw [decide_eq_false (show ¬ k = 1 by omega)]; rfl
  by_cases q1 : n <= k
  ·rw [if_pos q1] at hkd
   subst hkd; have d1 : decide ((n : Int) <= (k : Int)) = true := decide_eq_true (by omega)
   rcases (show k = 0 \/ k = 1 \/ 2 <= k by omega) with rfl | rfl | k2
   ·obtain rfl : th = false := sk.resolve_right (by omega)
    go_wp2; go_ret; exact ⟨rfl, rfl⟩
   ·obtain rfl : th = false := sk.resolve_right (by omega)
    go_wp2; go_ret; exact ⟨rfl, rfl⟩
   ·have z0 : ((k : Int) == 0) = false := by simp; omega
    have z1 : ((k : Int) == 1) = false := by simp; omega
    clear j0 j1 s0 s1; go_wp2; go_ret; exact ⟨rfl, rfl⟩
  rw [if_neg q1] at hkd; have d1 : decide ((n : Int) <= (k : Int)) = false := decide_eq_false (by omega); have hj : n - 1 - k < v.R.length := by rw [HN.out]; omega
  obtain ⟨y, hy⟩ : ∃ y, v.R[n - 1 - k]? = some y := ⟨_, List.getElem?_eq_getElem hj⟩
  obtain ⟨gb, go, hq, hc0, hc1⟩ := S.Sl.k HR.out (n - 1 - k) y hy; subst hq; have hka : kAt v.R k = y.1 := by unfold kAt; rw [HN.out, hy]; rfl
  rw [hka] at hkd; obtain ⟨J, hJ⟩ : ∃ J, n - 1 - k = J := ⟨_, rfl⟩
  rw [hJ] at hc0 hc1; have w1 : IntKind.i64.wrap ((n : Int) - 1) = (n : Int) - 1 := IntWalk.i64_in _ (by omega); have w2 : IntKind.i64.wrap ((n : Int) - 1 - (k : Int)) = (J : Int) := by rw [IntWalk.i64_in _ (by omega)]; omega
  have hJn : J < n := by omega
  have hJn' : (J : Int) < (n : Int) := by omega
  have HJ : Hid _ := hJ; have w3 : (n : Int) - 1 - (k : Int) = (J : Int) := by omega
  clear hy hc1 hka hj hJ
  by_cases q2 : y.1 = x
  ·rw [if_pos q2] at hkd
   have HK2 : Hid _ := hkd; have e2 : (y.1 != x) = false := by simp [q2]
   clear hkd
   rcases (show k = 0 \/ k = 1 \/ 2 <= k by omega) with rfl | rfl | k2
   ·obtain rfl : th = false := sk.resolve_right (by omega)
    have w4 : (n : Int) - 1 = (J : Int) := by omega
    have w5 : IntKind.i64.wrap ((n : Int) - 1) = (J : Int) := by rw [w1]; exact w4
    clear w1; go_wp2; go_roundw
    case rel =>
     first
      | exact ⟨1, by omega, by go_num, rfl, HK2.out⟩
      | exact ⟨1, by omega, by omega, HK2.out⟩
      | exact ⟨1, by omega, rfl, trivial, HK2.out⟩
      | exact ⟨1, by omega, by first | rfl | (congr 1), trivial, HK2.out⟩
    case measure => simp [intOf]; omega
   ·obtain rfl : th = false := sk.resolve_right (by omega)
    have w4 : (n : Int) - 2 = (J : Int) := by omega
    have w5 : (n : Int) - 1 - 1 = (J : Int) := by omega
    have w6 : IntKind.i64.wrap ((n : Int) - 2) = (J : Int) := by rw [IntWalk.i64_in _ (by omega)]; exact w4
    go_wp2; go_roundw
    case rel =>
     first
      | exact ⟨2, by omega, by go_num, rfl, HK2.out⟩
      | exact ⟨2, by omega, by omega, HK2.out⟩
      | exact ⟨2, by omega, rfl, trivial, HK2.out⟩
      | exact ⟨2, by omega, by first | rfl | (congr 1), trivial, HK2.out⟩
    case measure => simp [intOf]; omega
   ·have z0 : ((k : Int) == 0) = false := by simp; omega
    have z1 : ((k : Int) == 1) = false := by simp; omega
    clear j0 j1 s0 s1; go_wp2; go_roundw
    case rel =>
     first
      | exact ⟨k + 1, by omega, by go_num, rfl, HK2.out⟩
      | exact ⟨k + 1, by omega, by omega, HK2.out⟩
      | exact ⟨k + 1, by omega, rfl, trivial, HK2.out⟩
      | exact ⟨k + 1, by omega, by first | rfl | (congr 1), trivial, HK2.out⟩
    case measure => simp [intOf]; omega
  ·rw [if_neg q2] at hkd
   subst hkd; have e2 : (y.1 != x) = true := by simpa using q2
   rcases (show k = 0 \/ k = 1 \/ 2 <= k by omega) with rfl | rfl | k2
   ·obtain rfl : th = false := sk.resolve_right (by omega)
    have w4 : (n : Int) - 1 = (J : Int) := by omega
    have w5 : IntKind.i64.wrap ((n : Int) - 1) = (J : Int) := by rw [w1]; exact w4
    clear w1; go_wp2; go_ret; exact ⟨rfl, rfl⟩
   ·obtain rfl : th = false := sk.resolve_right (by omega)
    have w4 : (n : Int) - 2 = (J : Int) := by omega
    have w5 : (n : Int) - 1 - 1 = (J : Int) := by omega
    have w6 : IntKind.i64.wrap ((n : Int) - 2) = (J : Int) := by rw [IntWalk.i64_in _ (by omega)]; exact w4
    go_wp2; go_ret; exact ⟨rfl, rfl⟩
   ·have z0 : ((k : Int) == 0) = false := by simp; omega
    have z1 : ((k : Int) == 1) = false := by simp; omega
    clear j0 j1 s0 s1; go_wp2; go_ret; exact ⟨rfl, rfl⟩
end Go.Proofs.YteldjmecomngeaaGreat.V
