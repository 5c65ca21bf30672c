import Derived.Test.YthphmeckcmhijaaDoorRefR
/-! The reference's Number. -/
namespace Go.Proofs.YthphmeckcmhijaaDoor
open Go.RowKit
set_option linter.unusedVariables false

def ld : Nat → List UInt8 → Nat
  | 0, _ => 0
  | _ + 1, [] => 0
  | f + 1, b :: r => if b.toNat < 128 then 0 else ld f r + 1
def v7 : List UInt8 → Nat
  | [] => 0
  | b :: r => b.toNat % 128 + 128 * v7 r
theorem nmA_ld (f : Nat) : ∀ (i s : Nat) (l : List UInt8), nmA f i s l =
    if ld f l = f then (0, 0, 31) else if ld f l = l.length then (0, 0, 30) else
      if ((l.getD (ld f l) 0).toNat = 0 ∧ 0 < i + ld f l) ∨ 4294967295 < s + 2 ^ (7 * i) * v7 (l.take (ld f l + 1)) then (0, 0, 31) else (s + 2 ^ (7 * i) * v7 (l.take (ld f l + 1)), i + ld f l + 1, 0) := by
  induction f with
  | zero => intro i s l; simp [nmA, ld]
  | succ f ih =>
    intro i s l
    cases l with
    | nil => simp [nmA, ld]
    | cons b r =>
      simp only [nmA, ld]
      by_cases h : b.toNat < 128
      · simp only [h, if_true]
        simp [v7]
      · simp only [h, if_false]
        rw [ih (i + 1) _ r]
        have e1 : (ld f r + 1 = f + 1) = (ld f r = f) := by simp
        have e2 : (ld f r + 1 = (b :: r).length) = (ld f r = r.length) := by simp
        have e3 : (b :: r).getD (ld f r + 1) 0 = r.getD (ld f r) 0 := by simp [List.getD]
        have e4 : i + 1 + ld f r = i + (ld f r + 1) := by omega
        have e5 : s + 2 ^ (7 * i) * (b.toNat % 128) + 2 ^ (7 * (i + 1)) * v7 (r.take (ld f r + 1)) = s + 2 ^ (7 * i) * v7 ((b :: r).take (ld f r + 1 + 1)) := by
          rw [List.take_succ_cons, v7, show 7 * (i + 1) = 7 * i + 7 by omega, Nat.pow_add, Nat.mul_add, Nat.mul_assoc]
          simp [Nat.add_assoc]
        rw [e3, e4, e5]
        simp only [e1, e2]
theorem ld_char (f : Nat) : ∀ (k : Nat) (l : List UInt8), (∀ j b, j < k → l[j]? = some b → 128 ≤ b.toNat) → k ≤ f → k ≤ l.length → (k = f ∨ k = l.length ∨ ∃ b, l[k]? = some b ∧ b.toNat < 128) → ld f l = k := by
  induction f with
  | zero => intro k l _ h _ _; simp [ld]; omega
  | succ f ih =>
    intro k l h hk hl hx
    cases l with
    | nil => simp [ld]; simp at hl; omega
    | cons b r =>
      simp only [ld]
      cases k with
      | zero =>
        rcases hx with hx | hx | ⟨b', h1, h2⟩
        · omega
        · simp at hx
        · simp at h1; subst h1; simp [h2]
      | succ k =>
        have hb := h 0 b (by omega) rfl
        rw [if_neg (by omega), ih k r (fun j c hj hc => h (j + 1) c (by omega) (by simpa using hc)) (by omega) (by simpa using hl) ?_]
        rcases hx with hx | hx | ⟨b', h1, h2⟩
        · exact .inl (by omega)
        · exact .inr (.inl (by simpa using hx))
        · exact .inr (.inr ⟨b', by simpa using h1, h2⟩)
theorem v7_lt (l : List UInt8) : v7 l < 2 ^ (7 * l.length) := by
  induction l with
  | nil => simp [v7]
  | cons b l ih =>
    simp only [v7, List.length_cons, show 7 * (l.length + 1) = 7 + 7 * l.length by omega, Nat.pow_add]
    have h2 : 2 ^ 7 * (v7 l + 1) ≤ 2 ^ 7 * 2 ^ (7 * l.length) := Nat.mul_le_mul_left _ ih
    have h3 : b.toNat % 128 < 128 := Nat.mod_lt _ (by decide)
    omega
theorem v7_step (m : List UInt8) (k : Nat) (hk : k < m.length) : v7 (m.drop k) = 128 * v7 (m.drop (k + 1)) + m[k].toNat % 128 := by
  rw [List.drop_eq_getElem_cons hk, v7]; omega
def NR (br gr : Nat) (w : World) (t : Nat × List UInt8 × Nat) (r : Ending) (w' : World) : Prop := r = .returned (.int .i64 (t.1 : Int)) ∧ ∃ v', Rm w' br gr v' t.2.1 t.2.2 ∧ RStep br w w'

set_option maxHeartbeats 2000000 in
set_option maxRecDepth 100000 in
theorem rrnumber_any (br gr : Nat) (v : Value) (l : List UInt8) (e : Nat) (he : e < 1000) (w : World) (h : Rm w br gr v l e) :
    Calls Tryd.prog 38 #[.pointer (some ⟨br, 0, none⟩)] w fun r w' => NR br gr w (nr l e) r w' := by
  have c1 := h.c1
  by_cases he0 : e = 0
  · subst he0
    rw [nr_ok]
    have hnm := nmA_ld 5 0 0 l
    rw [show nmA 5 0 0 l = nm l from rfl] at hnm
    have c0 := h.c0
    have f1 := h.fz 1
    have f0 := h.fz 0
    have hS := h.sl
    have hlen := h.len
    have ho := h.own
    have hE30 := h.setErr 30
    have hE31 := h.setErr 31
    obtain ⟨p, c, hve, hb⟩ := h.sl.ex
    subst hve
    unfold room at hlen
    have H30 : Hid _ := hE30
    have H31 : Hid _ := hE31
    have HH : Hid _ := h
    have HS : Hid _ := hS
    clear hE30 hE31 h hS
    go_enter Tryd.func38, Tryd.ntmps38
    go_wp2
    go_loopw [3] (fun i wr => ∃ k : Nat, k ≤ 5 ∧ k ≤ l.length ∧ i = .int .i64 (k : Int) ∧ wr = w ∧ ∀ j b, j < k → l[j]? = some b → 128 ≤ b.toNat) (fun i _ => 5 - (intOf i).toNat)
    case atStart => exact ⟨0, by omega, by omega, rfl, rfl, fun j b hj => by omega⟩
    case round =>
      obtain ⟨k, hk, hkl, rfl, rfl, hall⟩ := hrel
      by_cases hk5 : k < 5
      · have i1 : (k : Int) < 5 := by omega
        by_cases hkL : k < l.length
        · have i2 : (k : Int) < l.length := by omega
          obtain ⟨x, rfl, hc⟩ := hb.at k (l[k]) (by simp)
          by_cases hbig : 128 ≤ l[k].toNat
          · have hall2 : ∀ j b, j < k + 1 → l[j]? = some b → 128 ≤ b.toNat := fun j b hj hjb => by
              by_cases e : j = k
              · subst e
                rw [List.getElem?_eq_getElem hkL] at hjb
                cases hjb
                exact hbig
              · exact hall j b (by omega) hjb
            have i3 : (128 : Int) ≤ (l[k].toNat : Int) := by omega
            generalize l[k].toNat = b at *
            clear hall
            go_wp2
            go_roundw
            case rel => exact ⟨k + 1, by omega, by omega, by go_num, by trivial, hall2⟩
            case measure => simp [intOf]; omega
          · have hld := ld_char 5 k l hall hk hkl (.inr (.inr ⟨l[k], by simp, by omega⟩))
            rw [hld, if_neg (by omega), if_neg (by omega)] at hnm
            have hgd : l.getD k 0 = l[k] := by simp [List.getD, hkL]
            rw [hgd] at hnm
            simp only [Nat.zero_add, Nat.mul_zero, Nat.pow_zero, Nat.one_mul] at hnm
            have hu8 := u8lt l[k]
            have hvlt := v7_lt (l.take (k + 1))
            have hvl2 : 2 ^ (7 * (l.take (k + 1)).length) ≤ 2 ^ 35 := Nat.pow_le_pow_right (by decide) (by simp; omega)
            have i3 : (l[k].toNat : Int) < 128 := by omega
            have hle1 : (l.take (k + 1)).length = k + 1 := by simp; omega
            generalize hbe : l[k].toNat = b at *
            have HHall : Hid _ := hall
            clear hall hld
            go_wp2
            go_loopw [4, 5] (fun vx i wr2 => ∃ j : Nat, j ≤ k + 1 ∧ i = .int .i64 ((j : Int) - 1) ∧ wr2 = wr ∧ vx = .int .u64 ((v7 ((l.take (k + 1)).drop j) : Nat) : Int)) (fun _ i _ => (intOf i + 1).toNat)
            case atStart => exact ⟨k + 1, by omega, by simp, rfl, by rw [List.drop_eq_nil_of_le (by omega)]; rfl⟩
            case round =>
              obtain ⟨j, hj, rfl, rfl, rfl⟩ := hrel
              by_cases hj0 : 0 < j
              · obtain ⟨j, rfl⟩ : ∃ j', j = j' + 1 := ⟨j - 1, by omega⟩
                have hst := v7_step (l.take (k + 1)) j (by omega)
                rw [List.getElem_take] at hst
                have hA := v7_lt ((l.take (k + 1)).drop (j + 1))
                have hA2 : 2 ^ (7 * ((l.take (k + 1)).drop (j + 1)).length) ≤ 2 ^ 35 := Nat.pow_le_pow_right (by decide) (by simp; omega)
                obtain ⟨x', hx', hcj⟩ := hb.at j (l[j]) (by simp)
                cases hx'
                have hbj := u8lt l[j]
                generalize hAe : v7 ((l.take (k + 1)).drop (j + 1)) = A at *
                generalize hbje : l[j].toNat = bj at *
                have e1 : (((j + 1 : Nat) : Int) - 1) = (j : Int) := by omega
                rw [e1]
                have m1 : (0 : Int) ≤ (j : Int) := by omega
                have m2 : (j : Int) < l.length := by omega
                have hA3 : A < 34359738368 := by omega
                have e4 : (bj : Int) % 128 = ((bj % 128 : Nat) : Int) := by omega
                have hb1 : bj % 128 < 128 := by omega
                generalize bj % 128 = b1 at *
                clear hA hA2 e1 hvlt hvl2
                go_wp2
                go_roundw
                case rel => exact ⟨j, by omega, by trivial, by trivial, by rw [hst]; try simp⟩
                case measure => simp [intOf]
              · obtain rfl : j = 0 := by omega
                rw [List.drop_zero]
                generalize hX : v7 (l.take (k + 1)) = X at *
                have hXl : X < 34359738368 := by omega
                have e0 : ((0 : Nat) : Int) - 1 = -1 := by omega
                rw [e0]
                have n5 : ((k : Int) == 5) = false := by simp; omega
                by_cases hk0 : 0 < k
                · have k0 : (0 : Int) < (k : Int) := by omega
                  by_cases hb0 : b = 0
                  · have b0 : ((b : Int) == 0) = true := by simp; omega
                    rw [if_pos (.inl ⟨hb0, hk0⟩)] at hnm
                    go_wp2
                    go_ret
                    rw [hnm]
                    exact ⟨rfl, _, H31.out, RStep.of_set _ _ _⟩
                  · have b0 : ((b : Int) == 0) = false := by simp; omega
                    by_cases hX5 : 4294967295 < X
                    · have x5 : (4294967295 : Int) < (X : Int) := by omega
                      rw [if_pos (.inr hX5)] at hnm
                      go_wp2
                      go_ret
                      rw [hnm]
                      exact ⟨rfl, _, H31.out, RStep.of_set _ _ _⟩
                    · have x5 : (X : Int) ≤ (4294967295 : Int) := by omega
                      rw [if_neg (by omega)] at hnm
                      have s2 := fun W => slice_from W (some x) l.length c (k + 1) ((k : Int) + 1) (by omega) hkL
                      have hD := HH.out.setLeft (Sl.drop (show Sl wr (.slice (some x) l.length c) l from HS.out) (k + 1) hkL) (by rw [own_slice (some x) l.length c]; exact ho) (by unfold room; rw [List.length_drop]; omega)
                      have HD : Hid _ := hD
                      clear hD
                      generalize hP : (if c = k + 1 then some x else (some x).map (·.add (k + 1))) = P' at *
                      go_wp2
                      go_ret
                      rw [hnm]
                      exact ⟨rfl, _, HD.out, RStep.of_set _ _ _⟩
                · have k0 : decide ((0 : Int) < (k : Int)) = false := by simp; omega
                  have k0' : decide (0 < k) = false := by simp; omega
                  by_cases hX5 : 4294967295 < X
                  · have x5 : (4294967295 : Int) < (X : Int) := by omega
                    rw [if_pos (.inr hX5)] at hnm
                    go_wp2
                    go_ret
                    rw [hnm]
                    exact ⟨rfl, _, H31.out, RStep.of_set _ _ _⟩
                  · have x5 : (X : Int) ≤ (4294967295 : Int) := by omega
                    rw [if_neg (by omega)] at hnm
                    have s2 := fun W => slice_from W (some x) l.length c (k + 1) ((k : Int) + 1) (by omega) hkL
                    have hD := HH.out.setLeft (Sl.drop (show Sl wr (.slice (some x) l.length c) l from HS.out) (k + 1) hkL) (by rw [own_slice (some x) l.length c]; exact ho) (by unfold room; rw [List.length_drop]; omega)
                    have HD : Hid _ := hD
                    clear hD
                    generalize hP : (if c = k + 1 then some x else (some x).map (·.add (k + 1))) = P' at *
                    go_wp2
                    go_ret
                    rw [hnm]
                    exact ⟨rfl, _, HD.out, RStep.of_set _ _ _⟩
        · obtain rfl : k = l.length := by omega
          have hld := ld_char 5 l.length l hall hk hkl (.inr (.inl rfl))
          rw [hld, if_neg (by omega), if_pos rfl] at hnm
          have i2 : decide ((l.length : Int) < (l.length : Int)) = false := by simp
          clear hall hld
          go_wp2
          go_ret
          rw [hnm]
          exact ⟨rfl, _, H30.out, RStep.of_set _ _ _⟩
      · obtain rfl : k = 5 := by omega
        have hld := ld_char 5 5 l hall hk hkl (.inl rfl)
        rw [hld, if_pos rfl] at hnm
        clear hall hld
        go_wp2
        go_loopw [4, 5] (fun vx i wr2 => i = .int .i64 5 ∧ wr2 = wr ∧ vx = .int .u64 0) (fun _ _ _ => 0)
        case atStart => exact ⟨rfl, rfl, rfl⟩
        case round =>
          obtain ⟨rfl, rfl, rfl⟩ := hrel
          go_wp2
          go_ret
          rw [hnm]
          exact ⟨rfl, _, H31.out, RStep.of_set _ _ _⟩
  · rw [nr_err he0]
    have i1 : ((e : Int) != 0) = true := by simp; omega
    go_enter Tryd.func38, Tryd.ntmps38
    go_wp2
    go_ret
    exact ⟨rfl, v, h, RStep.refl _ _⟩
end Go.Proofs.YthphmeckcmhijaaDoor
