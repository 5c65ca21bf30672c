import Derived.Test.YtdnklgceghllaaaGreatDoorMEq
import Derived.Test.YtdnklgceghllaaaGreatDoorMFixed
namespace Go.Proofs.YtdnklgceghllaaaGreatDoor.M
open Go.RowKit
open Go.Proofs
open Go.Proofs.YtdnklgceghllaaaGreatDoor.Y (Nd Df Ps Bk DV BV hid)
open Go.Proofs.YtdnklgceghllaaaGreatDoor.D (RdO New Er)
open Go.Proofs.YtdnklgceghllaaaGreatDoor.R (chk)
set_option linter.unusedVariables false
set_option linter.unusedSimpArgs false
set_option maxHeartbeats 4000000
set_option maxRecDepth 100000
theorem one_box (w : World) (dv xv : Value) : ∃ W2, w.alloc (.cells #[dv, xv] 26) = W2 ∧ Below w.heap.size w W2 ∧ W2.heap[w.heap.size]? = some (.cells [dv, xv].toArray 26 (0, 0)) :=
  ⟨_, rfl, (Below.refl _ _).alloc (Nat.le_refl _) _, heap_alloc_new w _⟩
theorem pg_is {N w : World} {dv xv : Value} {ds : List Df} {bs : List Bk} {O : Nat → Prop} (hD : DV N O dv ds) (hX : BV N O xv bs) (hl : ∀ j, O j → j < N.heap.size) (k : Below N.heap.size N w) : (∀ j, O j → j < w.heap.size) ∧ DV w O dv ds ∧ BV w O xv bs := ⟨fun j hj => Nat.lt_of_lt_of_le (hl j hj) k.size, hD.below k hl, hX.below k hl⟩
theorem built_walk (ds : List Df) (bs : List Bk) (hvd : ds.all vd = true) (hnm : ∀ d ∈ ds, d.nm.size ≤ maxLen) (hfw : bs.length ≤ 140737488355328) (dv xv : Value) (O : Nat → Prop) (W : World) (hO : ∀ j, O j → j < W.heap.size) (hD : DV W O dv ds) (hX : BV W O xv bs) (hT : P10 W) : Calls Tryz.prog 4 #[.agg #[dv, xv]] W fun e w' => e = .returned (.bool true) ∧ Below W.heap.size W w' := by
  obtain ⟨p1, c1, e1, _⟩ := id hD
  obtain ⟨p2, c2, e2, _⟩ := id hX
  subst e1 e2
  obtain ⟨W1, hW1, hb1, u1⟩ := one_box W (.slice p1 ds.length c1) (.slice p2 bs.length c2)
  have HG := hid (fun (w : World) (k : Below W1.heap.size W1 w) => show ((∀ j, O j → j < w.heap.size) ∧ DV w O (.slice p1 ds.length c1) ds ∧ BV w O (.slice p2 bs.length c2) bs) ∧ P10 w ∧ Below W.heap.size W w from by
    have k' := hb1.trans (k.mono hb1.size)
    exact ⟨⟨fun j hj => Nat.lt_of_lt_of_le (hO j hj) k'.size, hD.below k' hO, hX.below k' hO⟩, hT.below k', k'⟩)
  have HX := hid (fun (w : World) (k : Below W1.heap.size W1 w) => box2 u1 k)
  have HC := hid (And.intro hvd (And.intro hnm hfw))
  have hc0 := fixed_any W1 (hT.below hb1)
  clear hvd hnm hfw hO hD hX hT hb1 u1
  go_enter Tryz.func4, Tryz.ntmps4
  go_wp2_with fail
  try rw [hW1]
  refine hc0.mono ?_
  rintro e w1 ⟨rfl, hb1⟩
  obtain ⟨x0, x1⟩ := HX.out w1 hb1
  obtain ⟨⟨o1, o2, o3⟩, _, _⟩ := HG.out w1 hb1
  have hc1 := R.check_any ds bs HC.out.2.1 HC.out.2.2 _ _ _ w1 o1 o2 o3
  have HB1 := hid hb1
  clear hc0 hb1 o1 o2 o3 hW1
  go_wp2_with fail
  refine hc1.mono ?_
  rintro e w2 ⟨rfl, hb2⟩
  have hb2' := HB1.out.trans (hb2.mono HB1.out.size)
  obtain ⟨x0, x1⟩ := HX.out w2 hb2'
  obtain ⟨⟨o1, o2, o3⟩, o4, _⟩ := HG.out w2 hb2'
  have hc2 := print_is ds bs HC.out.2.1 HC.out.2.2 _ _ _ w2 o1 o2 o3 o4
  have HB2 := hid hb2'
  clear hc1 hb2 hb2' o1 o2 o3 o4
  by_cases hz : chk ds bs = 0
  case neg =>
    have hE : prn ds bs = (⟨#[]⟩, chk ds bs) := by unfold prn; rw [if_neg hz]
    rw [hE] at hc2
    have b1 : (chk ds bs != 0) = true := by simpa using hz
    clear hE hz
    generalize chk ds bs = c at *
    go_wp2_with fail
    refine hc2.mono ?_
    rintro e w3 ⟨rfl, hb3⟩
    have HB3 := hid (HG.out w3 (HB2.out.trans (hb3.mono HB2.out.size))).2.2
    have b2 : (c == c) = true := by simp
    clear hc2 hb3
    go_wp2
    go_ret
    exact ⟨rfl, HB3.out⟩
  case pos =>
    have hpr : prn ds bs = if 65536 < (ptx ds bs).length then (⟨#[]⟩, 90) else (⟨(ptx ds bs).toArray⟩, 0) := by unfold prn; rw [if_pos hz]
    rw [hpr] at hc2
    have HZ := hid hz
    rw [hz]
    clear hpr hz
    by_cases hlong : 65536 < (ptx ds bs).length
    · rw [if_pos hlong] at hc2
      clear hlong
      go_wp2_with fail
      refine hc2.mono ?_
      rintro e w3 ⟨rfl, hb3⟩
      have HB3 := hid (HG.out w3 (HB2.out.trans (hb3.mono HB2.out.size))).2.2
      clear hc2 hb3
      go_wp2
      go_ret
      exact ⟨rfl, HB3.out⟩
    · rw [if_neg hlong] at hc2
      obtain ⟨ds', hpp, hsm⟩ := parse_print ds bs HZ.out HC.out.1 (by omega)
      have hsz : (⟨(ptx ds bs).toArray⟩ : ByteArray).size ≤ 65536 := by
        have : (⟨(ptx ds bs).toArray⟩ : ByteArray).size = (ptx ds bs).length := by simp [ByteArray.size]
        omega
      generalize (⟨(ptx ds bs).toArray⟩ : ByteArray) = T at *
      have HQ := hid (And.intro hpp (And.intro hsm hsz))
      clear hpp hsm hsz hlong
      go_wp2_with fail
      refine hc2.mono ?_
      rintro e w3 ⟨rfl, hb3⟩
      have hb3' := HB2.out.trans (hb3.mono HB2.out.size)
      have hc3 := parse_any T (by have := HQ.out.2.2; omega) w3
      rw [HQ.out.1] at hc3
      have HB3 := hid hb3'
      clear hc2 hb3 hb3'
      go_wp2_with fail
      refine hc3.mono ?_
      rintro e w5 ⟨dv', xv', rfl, hD', hX', hb5⟩
      obtain ⟨q1, k1, e1, _⟩ := id hD'
      obtain ⟨q2, k2, e2, _⟩ := id hX'
      subst e1 e2
      obtain ⟨W6, hW6, hb6, v0, v1⟩ := two_box w5 (.slice q1 ds'.length k1) (.slice q2 bs.length k2) (.int .i64 0) (.int .i64 0)
      have hb26 : Below W1.heap.size W1 W6 := (HB3.out.trans (hb5.mono HB3.out.size)).trans (hb6.mono (by have := HB3.out.size; have := hb5.size; omega))
      obtain ⟨y0, y1⟩ := box2 v0 (Below.refl _ W6)
      obtain ⟨o1, o2, o3⟩ := pg_is hD' hX' (fun j hj => hj.2) (hb6.trans ((Below.refl _ W6).mono hb6.size))
      obtain ⟨x0, x1⟩ := HX.out W6 hb26
      obtain ⟨⟨r1, r2, r3⟩, _, _⟩ := HG.out W6 hb26
      have hc7 := same_any ds ds' bs bs HC.out.2.2 _ _ _ _ (fun j => j < W6.heap.size) W6 (fun j hj => hj) (r2.kept (fun _ _ => rfl) r1) (r3.kept (fun _ _ => rfl) r1) (o2.kept (fun _ _ => rfl) o1) (o3.kept (fun _ _ => rfl) o1)
      rw [HQ.out.2.1, smbs_refl, Bool.and_true] at hc7
      have HW6 := hid hW6
      have HB6 := hid hb26
      clear hc3 hb5 hD' hX' hb6 hb26 v0 v1 hW6 o1 o2 o3 r1 r2 r3
      go_upto_region 10 with fail
      rw [HW6.out]
      go_wp2_with fail
      refine hc7.mono ?_
      rintro e w8 ⟨rfl, hb8⟩
      have HB8 := hid (HG.out w8 (HB6.out.trans (hb8.mono HB6.out.size))).2.2
      clear hc7 hb8
      go_wp2
      go_ret
      exact ⟨rfl, HB8.out⟩
end Go.Proofs.YtdnklgceghllaaaGreatDoor.M
