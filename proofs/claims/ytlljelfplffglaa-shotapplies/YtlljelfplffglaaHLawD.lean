import Derived.Test.YtlljelfplffglaaHSm
import Derived.Test.YtlljelfplffglaaHLawA
/-! ShotDiffs: the walk. -/
namespace Go.Proofs.Ytlljelfplffglaa.H
open Go.RowKit
open Go.Proofs
open Go.Proofs.Ytlljelfplffglaa.K
set_option linter.unusedVariables false
set_option linter.unusedSimpArgs false
set_option maxHeartbeats 4000000
set_option maxRecDepth 100000
theorem own_bel {W W' : World} {B : Nat} {e : TypeId} {size : Nat} {v : Value} {n : Nat} {xs : List Value} (h : W.ownsRow B e size v n xs) (b : Below W.heap.size W W') : W'.ownsRow B e size v n xs := S.own_kept h fun g _ hg => b.block g hg
theorem Bt.own {g : Nat} {A B : World} (h : Bt g A B) {N : Nat} {e : TypeId} {size : Nat} {v : Value} {n : Nat} {xs : List Value} (hr : A.ownsRow N e size v n xs) (hg : g < N) : B.ownsRow N e size v n xs :=
  S.own_kept hr fun k ek hk => h.block k hk (by have := (hr.lt k ek).1; omega)
theorem own_ltN {W : World} {B : Nat} {e : TypeId} {size : Nat} {v : Value} {n : Nat} {xs : List Value} (h : W.ownsRow B e size v n xs) (N : Nat) (hN : W.heap.size ≤ N) : ∀ g, v.ownBlock = some g → g < N := fun g k => Nat.lt_of_lt_of_le (h.lt g k).2 hN
theorem p1_threeC {B N1 N2 N3 : Nat} {W : World} {v1 v2 v3 : Value} {l1 l2 l3 : List Ch} (h1 : HC.Row W N1 v1 l1) (h2 : HC.Row W N2 v2 l2) (h3 : HC.Row W N3 v3 l3)
    (k1 : ∀ g, v1.ownBlock = some g → g < N2) (k2 : ∀ g, v2.ownBlock = some g → g < N3) (b1 : B ≤ N1) (b2 : N1 ≤ N2) (b3 : N2 ≤ N3) (hB : B ≤ W.heap.size) :
    HC.P1 B W.heap.size 3 (three v1 v2 v3) (three l1.length l2.length l3.length) (W.alloc (.cells #[v1, v2, v3] 24)) (W.alloc (.cells #[v1, v2, v3] 24)) (three l1 l2 l3) := by
  have hb : Below W.heap.size W (W.alloc (.cells #[v1, v2, v3] 24)) := (Below.refl _ _).alloc (Nat.le_refl _) _
  have hn := heap_alloc_new W (.cells #[v1, v2, v3] 24)
  refine ⟨Below.refl _ _, Nat.le_trans hB hb.size, fun i hi => ?_, ⟨_, hn⟩, fun i hi => ?_, fun i hi => ?_, fun i j hi hj hij x hx hy => ?_⟩
  · have : i = 0 ∨ i = 1 ∨ i = 2 := by omega
    rcases this with rfl | rfl | rfl <;> (rw [cell_of_any _ _ _ _ _ _ hn]; rfl)
  · have : i = 0 ∨ i = 1 ∨ i = 2 := by omega
    rcases this with rfl | rfl | rfl
    · exact S.own_mono (own_bel h1 hb) b1
    · exact S.own_mono (own_bel h2 hb) (by omega)
    · exact S.own_mono (own_bel h3 hb) (by omega)
  · have : i = 0 ∨ i = 1 ∨ i = 2 := by omega
    rcases this with rfl | rfl | rfl <;> rfl
  · have ei : i = 0 ∨ i = 1 ∨ i = 2 := by omega
    have ej : j = 0 ∨ j = 1 ∨ j = 2 := by omega
    have e2 : ∀ g, v2.ownBlock = some g → N2 ≤ g := fun g e => (h2.lt g e).1
    have e3 : ∀ g, v3.ownBlock = some g → N3 ≤ g := fun g e => (h3.lt g e).1
    rcases ei with rfl | rfl | rfl <;> rcases ej with rfl | rfl | rfl
    · exact hij rfl
    · have a1 := k1 x hx; have a2 := e2 x hy; omega
    · have a1 := k1 x hx; have a2 := e3 x hy; omega
    · have a1 := k1 x hy; have a2 := e2 x hx; omega
    · exact hij rfl
    · have a1 := k2 x hx; have a2 := e3 x hy; omega
    · have a1 := k1 x hy; have a2 := e3 x hx; omega
    · have a1 := k2 x hy; have a2 := e3 x hx; omega
    · exact hij rfl
theorem xor_any (a b : Int) : ∃ y : UInt8, bits .xor .u8 a b = (y.toNat : Int) := u8_any _
theorem Bt.rmd {g : Nat} {A B : World} (h : Bt g A B) {N : Nat} {v : Value} {l : List UInt8} (hr : Rmd A N v l) (hg : g < N) : Rmd B N v l := by
  obtain ⟨g', cap, e, hr'⟩ := hr
  exact ⟨g', cap, e, h.row hr' hg⟩
theorem diffs_walk (va vb : Value) (a b : List UInt8) (hla : a.length + 3 ≤ room) (hlb : b.length + 3 ≤ room) (W : World) (ha : Sl W va a) (hb : Sl W vb b) :
    Calls Try.prog 4 #[va, vb] W fun r w' => r = .returned (.bool true) ∧ Below W.heap.size W w' := by
  obtain ⟨pa, ca, rfl, _⟩ := ha.ex
  obtain ⟨pb, cb, rfl, _⟩ := hb.ex
  have HG := hid (And.intro ha hb)
  clear ha hb
  go_enter Try.func4, Try.ntmps4
  go_wp2_with fail
  refine (fixed_any W).mono ?_
  rintro e w1 ⟨rfl, hb1⟩
  have HB1 := hid hb1
  clear hb1
  go_wp2_with fail
  refine (roomy_any _ a hla w1 (HG.out.1.below HB1.out)).mono ?_
  rintro e w2 ⟨u, rfl, hR, hb2⟩
  have HB2 := hid (HB1.out.trans (hb2.mono HB1.out.size))
  obtain ⟨g, cap, rfl, hR0⟩ := id hR
  have hg := hR0.lt g rfl
  have hcap : a.length + 3 ≤ cap := by
    rcases hR0.2 with ⟨h, _⟩ | ⟨_, _, _, h, _, _, h2, _⟩
    · cases h
    · simp only [Value.slice.injEq] at h; rw [h.2.2]; simpa [mks] using h2
  have HX2 := hid hR
  have HG2 := hid hg
  have HS1 := hid HB1.out.size
  clear hb2 HB1 hR hR0 hg
  go_wp2_with fail
  refine (roomy_any _ b hlb w2 (HG.out.2.below HB2.out)).mono ?_
  rintro e w3 ⟨u, rfl, hR, hb3⟩
  have HB3 := hid (HB2.out.trans (hb3.mono HB2.out.size))
  obtain ⟨gy, capy, rfl, hR0⟩ := id hR
  have HX3 := hid (HX2.out.below hb3)
  have HY3 := hid hR
  have HS3 := hid hb3.size
  clear hb3 HB2 hR hR0 HX2
  go_wp2_with fail
  refine (diff_any _ _ a b w3 HX3.out.sl HY3.out.sl).mono ?_
  rintro e w4 ⟨p1, c1, rfl, hr1, hb4⟩
  have HB4 := hid (HB3.out.trans (hb4.mono HB3.out.size))
  have HX4 := hid (HX3.out.below hb4)
  have HY4 := hid (HY3.out.below hb4)
  have HL1 := hid hr1
  have HX1 := hid (own_ltN hr1 _ (Nat.le_refl _))
  have HS4 := hid hb4.size
  clear hb4 HB3 HX3 HY3 hr1
  go_wp2_with fail
  refine (rdiff_any _ _ a b w4 (HG.out.1.below HB4.out) (HG.out.2.below HB4.out)).mono ?_
  rintro e w5 ⟨p2, c2, rfl, hr2, hb5⟩
  have HB5 := hid (HB4.out.trans (hb5.mono HB4.out.size))
  have HX5 := hid (HX4.out.below hb5)
  have HY5 := hid (HY4.out.below hb5)
  have HL1 := hid (own_bel HL1.out hb5)
  have HL2 := hid hr2
  have HS5 := hid hb5.size
  clear hb5 HB4 HX4 HY4 hr2
  go_wp2_with fail
  refine (diff_any _ _ a b w5 HX5.out.sl HY5.out.sl).mono ?_
  rintro e w6 ⟨p3, c3, rfl, hr3, hb6⟩
  have HB6 := hid (HB5.out.trans (hb6.mono HB5.out.size))
  have HX6 := hid (HX5.out.below hb6)
  have HY6 := hid (HY5.out.below hb6)
  have HL1 := hid (own_bel HL1.out hb6)
  have HL2 := hid (own_bel HL2.out hb6)
  have HL3 := hid hr3
  have HXX3 := hid (own_ltN hr3 _ (Nat.le_refl _))
  have HS6 := hid hb6.size
  clear hb6 HB5 HX5 HY5 hr3
  go_wp2_with fail
  refine (whole_any _ _ _ a hla w6 HX6.out (HG.out.1.below HB6.out)).mono ?_
  rintro e w9 ⟨rfl, hw9⟩
  obtain rfl := hw9.symm
  go_wp2_with fail
  refine (whole_any _ _ _ b hlb w6 HY6.out (HG.out.2.below HB6.out)).mono ?_
  rintro e w9 ⟨rfl, hw9⟩
  obtain rfl := hw9.symm
  obtain ⟨gR, capR, heR, hRow⟩ := HX6.out
  simp only [Value.slice.injEq, Option.some.injEq, Addr.mk.injEq] at heR
  obtain ⟨⟨rfl, _⟩, _, rfl⟩ := heR
  have HW := hid hRow
  clear HX6 hRow
  unfold room at hla hlb
  have hlr : ∀ l' : List UInt8, l'.length = a.length → (l' ++ mks).length = a.length + 3 := fun l' e => by simp [mks, e]
  have HLR := hid hlr
  clear hlr
  go_wp2
  go_loopw [13] (fun i wr => ∃ (k : Nat) (l' : List UInt8), k ≤ a.length ∧ i = .int .i64 (k : Int) ∧ l'.length = a.length ∧ Row wr w1.heap.size (.slice (some ⟨g, 0, none⟩) (a.length + 3) cap) (l' ++ mks) ∧ Bt g w6 wr) (fun i _ => a.length - (intOf i).toNat)
  case atStart => exact ⟨0, a, by omega, rfl, rfl, HW.out, Bt.refl _ _⟩
  case round =>
    clear HW
    obtain ⟨k, l', hk, rfl, hll, hr, hbt⟩ := hrel
    by_cases hlt : k < a.length
    · have i1 : (k : Int) < a.length := by omega
      have hlen := HLR.out l' hll
      have hce := row_cell hr k (by omega)
      have hfz := row_fz hr k
      generalize ((l' ++ mks)[k]'(by omega)).toNat = old at hce
      obtain ⟨z, hz⟩ : ∃ z, (k : Int) / 5 % 2 = z := ⟨_, rfl⟩
      have u1 : IntKind.u8.wrap z = z := by rw [← hz]; simp [IntKind.wrap, IntKind.bits, IntKind.signed]; omega
      obtain ⟨bb, hbz⟩ := xor_any (old : Int) z
      have hst := row_store hr k (by omega) bb
      rw [List.set_append_left _ _ (by omega)] at hst
      have HS := hid (And.intro hst (And.intro (hbt.set k (.int .u8 (bb.toNat : Int))) (show (l'.set k bb).length = a.length by rw [List.length_set]; exact hll)))
      clear hst hbt hr hlen hll
      go_wp2
      go_roundw
      case rel => exact ⟨k + 1, l'.set k bb, by omega, by go_num, HS.out.2.2, HS.out.1, HS.out.2.1⟩
      case measure => simp [intOf]; omega
    · obtain rfl : k = a.length := by omega
      have hg2 := HG2.out
      have hs3 := HS3.out
      have hs4 := HS4.out
      have hs5 := HS5.out
      have hs6 := HS6.out
      have hs1 := HS1.out
      have hsl := Sl.take hr.sl a.length (by rw [HLR.out l' hll]; omega)
      rw [List.take_append_of_le_length (by omega), List.take_of_length_le (by omega)] at hsl
      have r1 := hbt.own HL1.out (by omega)
      have r2 := hbt.own HL2.out (by omega)
      have r3 := hbt.own HL3.out (by omega)
      have ry := (hbt.rmd HY6.out (by omega)).sl
      have b0 := hbt.below HB6.out (by omega) (Nat.le_refl _)
      have hsb := hbt.size
      have HB := hid (And.intro b0 (And.intro r1 (And.intro r2 (And.intro r3 (And.intro ry hsb)))))
      have HSL := hid hsl
      have HN := hid (And.intro hg2 (And.intro hs3 (And.intro hs4 (And.intro hs5 (And.intro hs6 hs1)))))
      clear hg2 hs3 hs4 hs5 hs6 hs1 r1 r2 r3 ry b0 hsb hbt hr HL1 HL2 HL3 HY6 HB6 HG2 HS1 HS3 HS4 HS5 HS6 hsl
      go_wp2_with fail
      refine (diff_any _ _ l' b wr HSL.out HB.out.2.2.2.2.1).mono ?_
      rintro e w10 ⟨p4, c4, rfl, hr4, hb10⟩
      have HK10 := hid hb10
      have HL4 := hid hr4
      clear hb10 hr4
      go_wp2_with fail
      refine (rdiff_any _ _ l' b w10 (HSL.out.below HK10.out) (HB.out.2.2.2.2.1.below HK10.out)).mono ?_
      rintro e w11 ⟨p5, c5, rfl, hr5, hb11⟩
      have hbb := HK10.out.trans (hb11.mono HK10.out.size)
      obtain ⟨b0, r1, r2, r3, ry, hsb⟩ := HB.out
      have b1 := b0.trans (hbb.mono b0.size)
      have r1 := own_bel r1 hbb
      have r2 := own_bel r2 hbb
      have r3 := own_bel r3 hbb
      have r4 := own_bel HL4.out hb11
      have n1 := dfE_len a b
      have n2 := dfE_len l' b
      have t1 := S.own_sl hC r1
      have t2 := S.own_sl hC r2
      have t3 := S.own_sl hC r3
      have t4 := S.own_sl hC r4
      have t5 := S.own_sl hC hr5
      have sm1 := same_any _ _ (dfE l' b) (by omega) w11 t4 t5
      have sm2 := fun q => same_any _ _ (dfE a b) (by omega) (w11.drewN q) t1 t2
      have sm3 := fun q => same_any _ _ (dfE a b) (by omega) (w11.drewN q) t3 t2
      have hsz := hbb.size
      have hsz2 := HK10.out.size
      obtain ⟨⟨q0, q1⟩, q2, q3, q4, q5, q6⟩ := HN.out
      have hap : ∀ q, Calls Try.prog 16 #[.slice (some ⟨w11.heap.size, 0, none⟩) 3 3] ((w11.drewN q).alloc (.cells #[.slice p1 (dfE a b).length c1, .slice p3 (dfE a b).length c3, .slice p4 (dfE l' b).length c4] 24)) fun r w' => r = .returned (.bool true) ∧ Below w3.heap.size ((w11.drewN q).alloc (.cells #[.slice p1 (dfE a b).length c1, .slice p3 (dfE a b).length c3, .slice p4 (dfE l' b).length c4] 24)) w' := fun q => by
        have hP := p1_threeC (B := w3.heap.size) (W := w11.drewN q) (l1 := dfE a b) (l2 := dfE a b) (l3 := dfE l' b) r1 r3 r4 (fun g' e => Nat.lt_of_lt_of_le (HX1.out g' e) (by omega)) (fun g' e => Nat.lt_of_lt_of_le (HXX3.out g' e) (by omega)) (Nat.le_refl _) (by omega) (by omega) (by show _ ≤ w11.heap.size; omega)
        exact HC.apart_any w3.heap.size w11.heap.size 3 3 (by omega) _ _ _ _ hP (fun i hi => by
          unfold three
          split
          · omega
          · split <;> omega)
      have hfin : ∀ q, Below W.heap.size W ((w11.drewN q).alloc (.cells #[.slice p1 (dfE a b).length c1, .slice p3 (dfE a b).length c3, .slice p4 (dfE l' b).length c4] 24)) := fun q => (show Below W.heap.size W (w11.drewN q) from ⟨b1.os, b1.tape, b1.output, b1.size, b1.block⟩).alloc b1.size _
      have hWB : W.heap.size ≤ w3.heap.size := by omega
      have HF := hid (And.intro hfin hWB)
      clear r1 r2 r3 r4 t1 t2 t3 t4 t5 hr5 hb11 HL4 HB HK10 HSL HN b0 b1 hbb hsb hsz hsz2 q0 q1 q2 q3 q4 q5 q6 hfin hWB ry n1 n2
      go_wp2_with fail
      refine sm1.mono ?_
      rintro e w12 ⟨rfl, qa, rfl⟩
      clear sm1
      go_wp2_with fail
      refine (sm2 qa).mono ?_
      rintro e w13 ⟨rfl, qb, hw13⟩
      obtain ⟨qc, rfl⟩ : ∃ qc, w13 = w11.drewN qc := ⟨qa + qb, hw13.trans (World.drewN_drewN w11 qa qb)⟩
      clear sm2 hw13
      go_wp2_with fail
      refine (sm3 qc).mono ?_
      rintro e w14 ⟨rfl, qd, hw14⟩
      obtain ⟨qe, rfl⟩ : ∃ qe, w14 = w11.drewN qe := ⟨qc + qd, hw14.trans (World.drewN_drewN w11 qc qd)⟩
      clear sm3 hw14
      go_wp2_with fail
      refine (hap qe).mono ?_
      rintro r w15 ⟨rfl, hb15⟩
      have HE := hid ((HF.out.1 qe).trans (hb15.mono HF.out.2))
      clear hb15 hap
      go_wp2
      go_ret
      exact ⟨rfl, HE.out⟩
end Go.Proofs.Ytlljelfplffglaa.H
