import Derived.Test.YtlljelfplffglabHRUp
import Derived.Test.YtlljelfplffglabHApart
/-! ShotPacks: the walk. -/
namespace Go.Proofs.Ytlljelfplffglab.H
open Go.RowKit
open Go.Proofs
open Go.Proofs.Ytlljelfplffglab.K
set_option linter.unusedVariables false
set_option linter.unusedSimpArgs false
set_option maxHeartbeats 4000000
set_option maxRecDepth 100000
theorem pack_is (v : Value) (s : List UInt8) (w : World) (h : Sl w v s) :
    Calls Try.prog 6 #[v] w fun e w' => ∃ p c, e = .returned (.tuple #[.slice p (pkE s).length c, .int .i64 (pkN s)]) ∧ Row w' w.heap.size (.slice p (pkE s).length c) (pkE s) ∧ Below w.heap.size w w' := by
  refine (pack_any v s w h).mono ?_
  rintro e w' ⟨u, rfl, hr, hb⟩
  have e1 : (if s.length = 3072 then pk s else []) = pkE s := rfl
  have e2 : (if s.length = 3072 then (0 : Int) else 2) = pkN s := rfl
  rw [e1] at hr
  rw [e2]
  obtain ⟨p, c, rfl⟩ := own_val hr
  exact ⟨p, c, rfl, hr, hb⟩
theorem pkE_len (s : List UInt8) : (pkE s).length ≤ 6144 := by
  unfold pkE; split
  · have := pk_most s; omega
  · simp
theorem unL_len (b : List UInt8) : (unL b).length ≤ 3072 := by
  unfold unL un; split
  · next h => simp; omega
  · simp
/-- All as it was but for one block. -/
structure Bt (g : Nat) (A B : World) : Prop where
  os : B.os = A.os
  tape : B.tape = A.tape
  output : B.output = A.output
  size : A.heap.size ≤ B.heap.size
  block : ∀ k, k < A.heap.size → k ≠ g → B.heap[k]? = A.heap[k]?
theorem Bt.refl (g : Nat) (A : World) : Bt g A A := ⟨rfl, rfl, rfl, Nat.le_refl _, fun _ _ _ => rfl⟩
theorem Bt.set {g : Nat} {A B : World} (h : Bt g A B) (j : Nat) (v : Value) : Bt g A (B.setCell ⟨g, j, none⟩ v) :=
  ⟨h.os, h.tape, h.output, by simpa using h.size, fun k hk hn => (heap_setCell_other B ⟨g, j, none⟩ k v hn).trans (h.block k hk hn)⟩
theorem Bt.row {g : Nat} {A B : World} (h : Bt g A B) {N : Nat} {v : Value} {l : List UInt8} (hr : Row A N v l) (hg : g < N) : Row B N v l :=
  hr.kept fun k e hk => h.block k hk (by have := (hr.lt k e).1; omega)
theorem Bt.rowN {g : Nat} {A B : World} (h : Bt g A B) {N : Nat} {v : Value} {l : List UInt8} (hr : Row A N v l) (hg : ∀ k, v.ownBlock = some k → k ≠ g) : Row B N v l :=
  hr.kept fun k e hk => h.block k hk (hg k e)
theorem Bt.below {g : Nat} {A B : World} (h : Bt g A B) {N : Nat} {W : World} (hb : Below N W A) (hg : N ≤ g) (hs : N ≤ W.heap.size) : Below N W B :=
  hb.trans ⟨h.os, h.tape, h.output, h.size, fun k hk => h.block k (by have := hb.size; omega) (by omega)⟩
theorem Bt.rmd {g : Nat} {A B : World} (h : Bt g A B) {N : Nat} {v : Value} {l : List UInt8} (hr : Rmd A N v l) (hg : g < N) : Rmd B N v l := by
  obtain ⟨g', cap, e, hr'⟩ := hr
  exact ⟨g', cap, e, h.row hr' hg⟩
theorem u8_any (z : Int) : ∃ b : UInt8, IntKind.u8.wrap z = (b.toNat : Int) := by
  have h : 0 ≤ z % 256 ∧ z % 256 < 256 := by omega
  refine ⟨UInt8.ofNat (z % 256).toNat, ?_⟩
  rw [UInt8.toNat_ofNat_of_lt' (by show _ < 256; omega)]
  simp [IntKind.wrap, IntKind.bits, IntKind.signed]
  omega
theorem xor_any (a b : Int) : ∃ y : UInt8, bits .xor .u8 a b = (y.toNat : Int) := u8_any _
theorem own_lt2 {W : World} {B : Nat} {v : Value} {l : List UInt8} (h : Row W B v l) (N : Nat) (hN : W.heap.size ≤ N) : ∀ g, v.ownBlock = some g → g < N := fun g e => Nat.lt_of_lt_of_le (h.lt g e).2 hN
def six {α : Type} (a b c d e f : α) : Nat → α := fun i => if i = 0 then a else if i = 1 then b else if i = 2 then c else if i = 3 then d else if i = 4 then e else f
theorem lt6 {P : Nat → Prop} (h0 : P 0) (h1 : P 1) (h2 : P 2) (h3 : P 3) (h4 : P 4) (h5 : P 5) (i : Nat) (h : i < 6) : P i := by
  have : i = 0 ∨ i = 1 ∨ i = 2 ∨ i = 3 ∨ i = 4 ∨ i = 5 := by omega
  rcases this with rfl | rfl | rfl | rfl | rfl | rfl <;> assumption
/-- Six lists, for Apart. -/
theorem p1_six {B : Nat} {W : World} {v0 v1 v2 v3 v4 v5 : Value} {l0 l1 l2 l3 l4 l5 : List UInt8} {a0 a1 a2 a3 a4 a5 b0 b1 b2 b3 b4 b5 : Nat}
    (h0 : Row W a0 v0 l0) (h1 : Row W a1 v1 l1) (h2 : Row W a2 v2 l2) (h3 : Row W a3 v3 l3) (h4 : Row W a4 v4 l4) (h5 : Row W a5 v5 l5)
    (k0 : ∀ g, v0.ownBlock = some g → g < b0) (k1 : ∀ g, v1.ownBlock = some g → g < b1) (k2 : ∀ g, v2.ownBlock = some g → g < b2) (k3 : ∀ g, v3.ownBlock = some g → g < b3) (k4 : ∀ g, v4.ownBlock = some g → g < b4) (k5 : ∀ g, v5.ownBlock = some g → g < b5)
    (hab : B ≤ a0 ∧ b0 ≤ a3 ∧ b3 ≤ a1 ∧ b1 ≤ a4 ∧ b4 ≤ a2 ∧ b2 ≤ a5 ∧ a0 ≤ b0 ∧ a1 ≤ b1 ∧ a2 ≤ b2 ∧ a3 ≤ b3 ∧ a4 ≤ b4 ∧ a5 ≤ b5) (hB : B ≤ W.heap.size) :
    P1 B W.heap.size 6 (six v0 v1 v2 v3 v4 v5) (six l0.length l1.length l2.length l3.length l4.length l5.length) (W.alloc (.cells #[v0, v1, v2, v3, v4, v5] 22)) (W.alloc (.cells #[v0, v1, v2, v3, v4, v5] 22)) (six l0 l1 l2 l3 l4 l5) := by
  have hb : Below W.heap.size W (W.alloc (.cells #[v0, v1, v2, v3, v4, v5] 22)) := (Below.refl _ _).alloc (Nat.le_refl _) _
  have hn := heap_alloc_new W (.cells #[v0, v1, v2, v3, v4, v5] 22)
  obtain ⟨e0, e1, e2, e3, e4, e5, f0, f1, f2, f3, f4, f5⟩ := hab
  have hl : ∀ i, i < 6 → ∀ x, (six v0 v1 v2 v3 v4 v5 i).ownBlock = some x → (six a0 a1 a2 a3 a4 a5 i) ≤ x ∧ x < (six b0 b1 b2 b3 b4 b5 i) := fun i hi => by
    refine lt6 (P := fun i => ∀ x, (six v0 v1 v2 v3 v4 v5 i).ownBlock = some x → (six a0 a1 a2 a3 a4 a5 i) ≤ x ∧ x < (six b0 b1 b2 b3 b4 b5 i)) ?_ ?_ ?_ ?_ ?_ ?_ i hi
    · exact fun x hx => ⟨(h0.lt x hx).1, k0 x hx⟩
    · exact fun x hx => ⟨(h1.lt x hx).1, k1 x hx⟩
    · exact fun x hx => ⟨(h2.lt x hx).1, k2 x hx⟩
    · exact fun x hx => ⟨(h3.lt x hx).1, k3 x hx⟩
    · exact fun x hx => ⟨(h4.lt x hx).1, k4 x hx⟩
    · exact fun x hx => ⟨(h5.lt x hx).1, k5 x hx⟩
  have hs : ∀ i j, i < 6 → j < 6 → i ≠ j → (six b0 b1 b2 b3 b4 b5 i) ≤ (six a0 a1 a2 a3 a4 a5 j) ∨ (six b0 b1 b2 b3 b4 b5 j) ≤ (six a0 a1 a2 a3 a4 a5 i) := fun i j hi hj => by
    have ei : i = 0 ∨ i = 1 ∨ i = 2 ∨ i = 3 ∨ i = 4 ∨ i = 5 := by omega
    have ej : j = 0 ∨ j = 1 ∨ j = 2 ∨ j = 3 ∨ j = 4 ∨ j = 5 := by omega
    rcases ei with rfl | rfl | rfl | rfl | rfl | rfl <;> rcases ej with rfl | rfl | rfl | rfl | rfl | rfl <;> (intro hne; simp only [six]; simp; try omega)
  refine ⟨Below.refl _ _, Nat.le_trans hB hb.size, fun i hi => ?_, ⟨_, hn⟩, fun i hi => ?_, fun i hi => ?_, fun i j hi hj hij x hx hy => ?_⟩
  · rw [cell_of_any _ _ _ _ _ _ hn]
    exact lt6 (P := fun i => #[v0, v1, v2, v3, v4, v5][i]? = some (six v0 v1 v2 v3 v4 v5 i)) rfl rfl rfl rfl rfl rfl i hi
  · exact lt6 (P := fun i => Row (W.alloc (.cells #[v0, v1, v2, v3, v4, v5] 22)) B (six v0 v1 v2 v3 v4 v5 i) (six l0 l1 l2 l3 l4 l5 i)) ((h0.below hb).mono (by omega)) ((h1.below hb).mono (by omega)) ((h2.below hb).mono (by omega)) ((h3.below hb).mono (by omega)) ((h4.below hb).mono (by omega)) ((h5.below hb).mono (by omega)) i hi
  · exact lt6 (P := fun i => (six l0 l1 l2 l3 l4 l5 i).length = six l0.length l1.length l2.length l3.length l4.length l5.length i) rfl rfl rfl rfl rfl rfl i hi
  · have x1 := hl i hi x hx
    have x2 := hl j hj x hy
    have x3 := hs i j hi hj hij
    omega
theorem packs_walk (va vb : Value) (a b : List UInt8) (hla : a.length + 3 ≤ room) (hlb : b.length + 3 ≤ room) (W : World) (ha : Sl W va a) (hb : Sl W vb b) :
    Calls Try.prog 3 #[va, vb] W fun r w' => r = .returned (.bool true) ∧ Below W.heap.size W w' := by
  obtain ⟨pa, ca, rfl, _⟩ := ha.ex
  obtain ⟨pb', cb, rfl, _⟩ := hb.ex
  have HG := hid (And.intro ha hb)
  obtain ⟨PA, hPA⟩ : ∃ PA, pkE a = PA := ⟨_, rfl⟩
  obtain ⟨PN, hPN⟩ : ∃ PN, pkN a = PN := ⟨_, rfl⟩
  obtain ⟨UB, hUB⟩ : ∃ UB, unL b = UB := ⟨_, rfl⟩
  obtain ⟨UN, hUN⟩ : ∃ UN, unE b = UN := ⟨_, rfl⟩
  have lPA := pkE_len a
  have lUB := unL_len b
  rw [hPA] at lPA
  rw [hUB] at lUB
  have CPK := hid (fun v w h => hPA ▸ hPN ▸ pack_is v a w h)
  have CRPK := hid (fun v w h => hPA ▸ hPN ▸ rpack_any v a w h)
  have CUN := hid (fun v w h => hUB ▸ hUN ▸ unpack_any v b (by omega) w h)
  have CRUN := hid (fun v w h => hUB ▸ hUN ▸ runpack_any v b (by omega) w h)
  have HLL := hid (And.intro lPA lUB)
  clear ha hb hPA hPN hUB hUN lPA lUB
  go_enter Try.func3, Try.ntmps3
  go_wp2_with fail
  refine (fixed_any W).mono ?_
  rintro e w1 ⟨rfl, hb1⟩
  have HB1 := hid hb1
  clear hb1
  go_wp2_with fail
  refine (roomy_any _ a hla w1 (HG.out.1.below HB1.out)).mono ?_
  rintro e w2 ⟨u, rfl, hR, hb2⟩
  have HB2 := hid (HB1.out.trans (hb2.mono HB1.out.size))
  obtain ⟨g, cap, rfl, hR0⟩ := id hR
  have hg := hR0.lt g rfl
  have hcap : a.length + 3 ≤ cap := by
    rcases hR0.2 with ⟨h, _⟩ | ⟨_, _, _, h, _, _, h2, _⟩
    · cases h
    · simp only [Value.slice.injEq] at h; rw [h.2.2]; simpa [mks] using h2
  have HX := hid hR
  have HG2 := hid hg
  have HS1 := hid HB1.out.size
  have HB := hid HB2.out
  clear hb2 HB1 hR hR0 hg
  go_wp2_with fail
  refine (roomy_any _ b hlb w2 (HG.out.2.below HB2.out)).mono ?_
  rintro e w3 ⟨u, rfl, hR, hb3⟩
  obtain ⟨gy, capy, rfl, hR0⟩ := id hR
  have hgy := hR0.lt gy rfl
  have hcapy : b.length + 3 ≤ capy := by
    rcases hR0.2 with ⟨h, _⟩ | ⟨_, _, _, h, _, _, h2, _⟩
    · cases h
    · simp only [Value.slice.injEq] at h; rw [h.2.2]; simpa [mks] using h2
  have HB := hid (HB.out.trans (hb3.mono HB.out.size))
  have HX := hid (HX.out.below hb3)
  have HY := hid hR
  have HGY := hid hgy
  clear hb3 HB2 hR hR0 hgy
  go_wp2_with fail
  refine (CPK.out _ w3 HX.out.sl).mono ?_
  rintro e w4 ⟨pp, cp, rfl, hr, hbn⟩
  have HB := hid (HB.out.trans (hbn.mono HB.out.size))
  have HX := hid (HX.out.below hbn)
  have HY := hid (HY.out.below hbn)
  have HLp := hid hr
  have HOp := hid (own_lt2 hr _ (Nat.le_refl _))
  have HS3 := hid hbn.size
  clear hbn hr
  go_wp2_with fail
  refine (CRPK.out _ w4 (HG.out.1.below HB.out)).mono ?_
  rintro e w5 ⟨pq, cq, rfl, hr, hbn⟩
  have HB := hid (HB.out.trans (hbn.mono HB.out.size))
  have HX := hid (HX.out.below hbn)
  have HY := hid (HY.out.below hbn)
  have HLp := hid (HLp.out.below hbn)
  have HLq := hid hr
  have HOq := hid (own_lt2 hr _ (Nat.le_refl _))
  have HS4 := hid hbn.size
  clear hbn hr
  go_wp2_with fail
  refine (CUN.out _ w5 HY.out.sl).mono ?_
  rintro e w6 ⟨pu, cu, rfl, hr, hbn⟩
  have HB := hid (HB.out.trans (hbn.mono HB.out.size))
  have HX := hid (HX.out.below hbn)
  have HY := hid (HY.out.below hbn)
  have HLp := hid (HLp.out.below hbn)
  have HLq := hid (HLq.out.below hbn)
  have HLu := hid hr
  have HOu := hid (own_lt2 hr _ (Nat.le_refl _))
  have HS5 := hid hbn.size
  clear hbn hr
  go_wp2_with fail
  refine (CRUN.out _ w6 (HG.out.2.below HB.out)).mono ?_
  rintro e w7 ⟨pv, cv, rfl, hr, hbn⟩
  have HB := hid (HB.out.trans (hbn.mono HB.out.size))
  have HX := hid (HX.out.below hbn)
  have HY := hid (HY.out.below hbn)
  have HLp := hid (HLp.out.below hbn)
  have HLq := hid (HLq.out.below hbn)
  have HLu := hid (HLu.out.below hbn)
  have HLv := hid hr
  have HOv := hid (own_lt2 hr _ (Nat.le_refl _))
  have HS6 := hid hbn.size
  clear hbn hr
  go_wp2_with fail
  refine (CPK.out _ w7 HX.out.sl).mono ?_
  rintro e w8 ⟨pP, cP, rfl, hr, hbn⟩
  have HB := hid (HB.out.trans (hbn.mono HB.out.size))
  have HX := hid (HX.out.below hbn)
  have HY := hid (HY.out.below hbn)
  have HLp := hid (HLp.out.below hbn)
  have HLq := hid (HLq.out.below hbn)
  have HLu := hid (HLu.out.below hbn)
  have HLv := hid (HLv.out.below hbn)
  have HLP := hid hr
  have HOP := hid (own_lt2 hr _ (Nat.le_refl _))
  have HS7 := hid hbn.size
  clear hbn hr
  go_wp2_with fail
  refine (CUN.out _ w8 HY.out.sl).mono ?_
  rintro e w9 ⟨pU, cU, rfl, hr, hbn⟩
  have HB := hid (HB.out.trans (hbn.mono HB.out.size))
  have HX := hid (HX.out.below hbn)
  have HY := hid (HY.out.below hbn)
  have HLp := hid (HLp.out.below hbn)
  have HLq := hid (HLq.out.below hbn)
  have HLu := hid (HLu.out.below hbn)
  have HLv := hid (HLv.out.below hbn)
  have HLP := hid (HLP.out.below hbn)
  have HLU := hid hr
  have HOU := hid (own_lt2 hr _ (Nat.le_refl _))
  have HS8 := hid hbn.size
  clear hbn hr
  go_wp2_with fail
  refine (whole_any _ _ _ a hla w9 HX.out (HG.out.1.below HB.out)).mono ?_
  rintro e w9' ⟨rfl, hw9⟩
  obtain rfl := hw9.symm
  go_wp2_with fail
  refine (whole_any _ _ _ b hlb w9 HY.out (HG.out.2.below HB.out)).mono ?_
  rintro e w9' ⟨rfl, hw9⟩
  obtain rfl := hw9.symm
  clear CPK CRPK CUN CRUN
  obtain ⟨gR, capR, heR, hRow⟩ := HX.out
  simp only [Value.slice.injEq, Option.some.injEq, Addr.mk.injEq] at heR
  obtain ⟨⟨rfl, _⟩, _, rfl⟩ := heR
  have HW := hid hRow
  clear HX hRow
  unfold room at hla hlb
  have HLR := hid (show ∀ l' : List UInt8, l'.length = a.length → (l' ++ mks).length = a.length + 3 from fun l' e => by simp [mks, e])
  have HLS := hid (show ∀ l' : List UInt8, l'.length = b.length → (l' ++ mks).length = b.length + 3 from fun l' e => by simp [mks, e])
  go_wp2
  go_loopw [19] (fun i wr => ∃ (k : Nat) (l' : List UInt8), k ≤ a.length ∧ i = .int .i64 (k : Int) ∧ l'.length = a.length ∧ Row wr w1.heap.size (.slice (some ⟨g, 0, none⟩) (a.length + 3) cap) (l' ++ mks) ∧ Bt g w9 wr) (fun i _ => a.length - (intOf i).toNat)
  case atStart => exact ⟨0, a, by omega, rfl, rfl, HW.out, Bt.refl _ _⟩
  case round =>
    clear HW
    obtain ⟨k, l', hk, rfl, hll, hr, hbt⟩ := hrel
    by_cases hlt : k < a.length
    · have i1 : (k : Int) < a.length := by omega
      have hlen := HLR.out l' hll
      have hce := row_cell hr k (by omega)
      have hfz := row_fz hr k
      generalize ((l' ++ mks)[k]'(by omega)).toNat = old at hce
      obtain ⟨z, hz⟩ : ∃ z, (k : Int) / 7 % 2 = z := ⟨_, rfl⟩
      have u1 : IntKind.u8.wrap z = z := by rw [← hz]; simp [IntKind.wrap, IntKind.bits, IntKind.signed]; omega
      obtain ⟨bb, hbz⟩ := xor_any (old : Int) z
      have hst := row_store hr k (by omega) bb
      rw [List.set_append_left _ _ (by omega)] at hst
      have HS := hid (And.intro hst (And.intro (hbt.set k (.int .u8 (bb.toNat : Int))) (show (l'.set k bb).length = a.length by rw [List.length_set]; exact hll)))
      clear hst hbt hr hlen hll
      go_wp2
      go_roundw
      case rel => exact ⟨k + 1, l'.set k bb, by omega, by go_num, HS.out.2.2, HS.out.1, HS.out.2.1⟩
      case measure => simp [intOf]; omega
    · obtain rfl : k = a.length := by omega
      have hg2 := HG2.out
      have hgy := HGY.out
      have hs3 := HS3.out
      have hs4 := HS4.out
      have hs5 := HS5.out
      have hs6 := HS6.out
      have hs7 := HS7.out
      have hs8 := HS8.out
      have hs1 := HS1.out
      have HLp := hid (hbt.row HLp.out (by omega))
      have HLq := hid (hbt.row HLq.out (by omega))
      have HLu := hid (hbt.row HLu.out (by omega))
      have HLv := hid (hbt.row HLv.out (by omega))
      have HLP := hid (hbt.row HLP.out (by omega))
      have HLU := hid (hbt.row HLU.out (by omega))
      have HY := hid (hbt.rmd HY.out (by omega))
      have HB := hid (hbt.below HB.out (by omega) (Nat.le_refl _))
      have HZ := hid hbt.size
      have HXR := hid (And.intro hll hr)
      clear hll hr hbt
      obtain ⟨wl, hwl⟩ : ∃ wl, wl = wr := ⟨_, rfl⟩
      subst hwl
      obtain ⟨gR, capR, heR, hRow⟩ := HY.out
      simp only [Value.slice.injEq, Option.some.injEq, Addr.mk.injEq] at heR
      obtain ⟨⟨rfl, _⟩, _, rfl⟩ := heR
      have HW := hid hRow
      clear HY hRow
      have HNN := hid (show W.heap.size ≤ w1.heap.size ∧ w1.heap.size ≤ g ∧ g < w2.heap.size ∧ w2.heap.size ≤ gy ∧ gy < w3.heap.size ∧ w3.heap.size ≤ w4.heap.size ∧ w4.heap.size ≤ w5.heap.size ∧ w5.heap.size ≤ w6.heap.size ∧ w6.heap.size ≤ w7.heap.size ∧ w7.heap.size ≤ w8.heap.size ∧ w8.heap.size ≤ w9.heap.size ∧ w9.heap.size ≤ wl.heap.size from by have := HZ.out; omega)
      clear hg2 hgy hs3 hs4 hs5 hs6 hs7 hs8 hs1 HG2 HGY HZ HS3 HS4 HS5 HS6 HS7 HS8 HS1
      go_wp2
      go_loopw [20] (fun i wr => ∃ (k : Nat) (m' : List UInt8), 2 * k ≤ b.length + 1 ∧ i = .int .i64 ((2 * k + 1 : Nat) : Int) ∧ m'.length = b.length ∧ Row wr w2.heap.size (.slice (some ⟨gy, 0, none⟩) (b.length + 3) capy) (m' ++ mks) ∧ Bt gy wl wr) (fun i _ => b.length + 4 - (intOf i).toNat)
      case atStart => exact ⟨0, b, by omega, rfl, rfl, HW.out, Bt.refl _ _⟩
      case round =>
        clear HW
        obtain ⟨k, m', hk, rfl, hmm, hr, hbt⟩ := hrel
        by_cases hlt : 2 * k + 1 < b.length
        · have hlen := HLS.out m' hmm
          have hce := row_cell hr (2 * k + 1) (by omega)
          have hfz := row_fz hr (2 * k + 1)
          generalize ((m' ++ mks)[2 * k + 1]'(by omega)).toNat = old at hce
          obtain ⟨bb, hbz⟩ := xor_any (old : Int) 1
          have hst := row_store hr (2 * k + 1) (by omega) bb
          rw [List.set_append_left _ _ (by omega)] at hst
          have HS := hid (And.intro hst (And.intro (hbt.set (2 * k + 1) (.int .u8 (bb.toNat : Int))) (show (m'.set (2 * k + 1) bb).length = b.length by rw [List.length_set]; exact hmm)))
          clear hst hbt hr hlen hmm
          obtain ⟨o, ho⟩ : ∃ o, 2 * k + 1 = o := ⟨_, rfl⟩
          have HKO := hid (show ((2 * (k + 1) + 1 : Nat) : Int) = (o : Int) + 2 by omega)
          have HKP := hid (show 2 * (k + 1) ≤ b.length + 1 by omega)
          rw [ho] at hlt hce hfz HS ⊢
          clear ho
          have i1 : (o : Int) < b.length := by omega
          have i2 : (0 : Int) ≤ (o : Int) := by omega
          have y7 : IntKind.i64.wrap ((o : Int) + 2) = (o : Int) + 2 := by rw [IntKind.wrap_i64]; omega
          go_wp2
          go_roundw
          case rel => exact ⟨k + 1, m'.set o bb, HKP.out, by rw [HKO.out], HS.out.2.2, HS.out.1, HS.out.2.1⟩
          case measure => simp [intOf]; omega
        · have i1 : ¬ ((2 * k + 1 : Nat) : Int) < (b.length : Int) := by omega
          generalize 2 * k + 1 = o at i1 ⊢
          have i2 : decide ((o : Int) < (b.length : Int)) = false := decide_eq_false i1
          obtain ⟨n0, n1, n2, n3, n4, n5, n6, n7, n8, n9, n10, n11⟩ := HNN.out
          have HLp := hid (hbt.row HLp.out (by omega))
          have HLq := hid (hbt.row HLq.out (by omega))
          have HLu := hid (hbt.row HLu.out (by omega))
          have HLv := hid (hbt.row HLv.out (by omega))
          have HLP := hid (hbt.row HLP.out (by omega))
          have HLU := hid (hbt.row HLU.out (by omega))
          have hxr := hbt.rowN HXR.out.2 (fun j e => by have e2 : g = j := (by simpa [Value.ownBlock] using e); omega)
          have hsa := Sl.take hxr.sl a.length (by rw [HLR.out l' HXR.out.1]; omega)
          rw [List.take_append_of_le_length (by have := HXR.out.1; omega), List.take_of_length_le (by have := HXR.out.1; omega)] at hsa
          have hsb := Sl.take hr.sl b.length (by rw [HLS.out m' hmm]; omega)
          rw [List.take_append_of_le_length (by omega), List.take_of_length_le (by omega)] at hsb
          have HB := hid (hbt.below HB.out (by omega) (Nat.le_refl _))
          have HZ := hid (show wl.heap.size ≤ wr.heap.size from hbt.size)
          have HSA := hid hsa
          have HSB := hid hsb
          have hml : m'.length ≤ room := by unfold room; omega
          clear hxr hsa hsb hr hbt hmm HXR n0 n1 n2 n3 n4 n5 n6 n7 n8 n9 n10 n11
          obtain ⟨PA2, hPA⟩ : ∃ PA, pkE l' = PA := ⟨_, rfl⟩
          obtain ⟨PN2, hPN⟩ : ∃ PN, pkN l' = PN := ⟨_, rfl⟩
          obtain ⟨UB2, hUB⟩ : ∃ UB, unL m' = UB := ⟨_, rfl⟩
          obtain ⟨UN2, hUN⟩ : ∃ UN, unE m' = UN := ⟨_, rfl⟩
          have lPA := pkE_len l'
          have lUB := unL_len m'
          rw [hPA] at lPA
          rw [hUB] at lUB
          have CPK := hid (fun v w h => hPA ▸ hPN ▸ pack_is v l' w h)
          have CRPK := hid (fun v w h => hPA ▸ hPN ▸ rpack_any v l' w h)
          have CUN := hid (fun v w h => hUB ▸ hUN ▸ unpack_any v m' hml w h)
          have CRUN := hid (fun v w h => hUB ▸ hUN ▸ runpack_any v m' hml w h)
          have HLM := hid (And.intro lPA lUB)
          clear hPA hPN hUB hUN lPA lUB hml
          go_wp2_with fail
          refine (CPK.out _ wr HSA.out).mono ?_
          rintro e w10 ⟨pa_, ca_, rfl, hr, hbn⟩
          have HB := hid (HB.out.trans (hbn.mono HB.out.size))
          have HSA := hid (HSA.out.below hbn)
          have HSB := hid (HSB.out.below hbn)
          have HLp := hid (HLp.out.below hbn)
          have HLq := hid (HLq.out.below hbn)
          have HLu := hid (HLu.out.below hbn)
          have HLv := hid (HLv.out.below hbn)
          have HLP := hid (HLP.out.below hbn)
          have HLU := hid (HLU.out.below hbn)
          have HLa := hid hr
          have HOa := hid (own_lt2 hr _ (Nat.le_refl _))
          have HSa := hid (show wr.heap.size ≤ w10.heap.size from hbn.size)
          clear hbn hr
          go_wp2_with fail
          refine (CRPK.out _ w10 HSA.out).mono ?_
          rintro e w11 ⟨pb_, cb_, rfl, hr, hbn⟩
          have HB := hid (HB.out.trans (hbn.mono HB.out.size))
          have HSA := hid (HSA.out.below hbn)
          have HSB := hid (HSB.out.below hbn)
          have HLp := hid (HLp.out.below hbn)
          have HLq := hid (HLq.out.below hbn)
          have HLu := hid (HLu.out.below hbn)
          have HLv := hid (HLv.out.below hbn)
          have HLP := hid (HLP.out.below hbn)
          have HLU := hid (HLU.out.below hbn)
          have HLa := hid (HLa.out.below hbn)
          have HLb := hid hr
          have HOb := hid (own_lt2 hr _ (Nat.le_refl _))
          have HSb := hid (show w10.heap.size ≤ w11.heap.size from hbn.size)
          clear hbn hr
          go_wp2_with fail
          refine (CUN.out _ w11 HSB.out).mono ?_
          rintro e w12 ⟨pd, cd, rfl, hr, hbn⟩
          have HB := hid (HB.out.trans (hbn.mono HB.out.size))
          have HSA := hid (HSA.out.below hbn)
          have HSB := hid (HSB.out.below hbn)
          have HLp := hid (HLp.out.below hbn)
          have HLq := hid (HLq.out.below hbn)
          have HLu := hid (HLu.out.below hbn)
          have HLv := hid (HLv.out.below hbn)
          have HLP := hid (HLP.out.below hbn)
          have HLU := hid (HLU.out.below hbn)
          have HLa := hid (HLa.out.below hbn)
          have HLb := hid (HLb.out.below hbn)
          have HLd := hid hr
          have HOd := hid (own_lt2 hr _ (Nat.le_refl _))
          have HSd := hid (show w11.heap.size ≤ w12.heap.size from hbn.size)
          clear hbn hr
          go_wp2_with fail
          refine (CRUN.out _ w12 HSB.out).mono ?_
          rintro e w13 ⟨pf, cf, rfl, hr, hbn⟩
          have HB := hid (HB.out.trans (hbn.mono HB.out.size))
          have HSA := hid (HSA.out.below hbn)
          have HSB := hid (HSB.out.below hbn)
          have HLp := hid (HLp.out.below hbn)
          have HLq := hid (HLq.out.below hbn)
          have HLu := hid (HLu.out.below hbn)
          have HLv := hid (HLv.out.below hbn)
          have HLP := hid (HLP.out.below hbn)
          have HLU := hid (HLU.out.below hbn)
          have HLa := hid (HLa.out.below hbn)
          have HLb := hid (HLb.out.below hbn)
          have HLd := hid (HLd.out.below hbn)
          have HLf := hid hr
          have HOf := hid (own_lt2 hr _ (Nat.le_refl _))
          have HSf := hid (show w12.heap.size ≤ w13.heap.size from hbn.size)
          clear hbn hr
          clear CPK CRPK CUN CRUN HSA HSB
          have cvp := HLp.out.sl.conv (by have := HLL.out; have := HLM.out; unfold maxLen; omega)
          have cvq := HLq.out.sl.conv (by have := HLL.out; have := HLM.out; unfold maxLen; omega)
          have cvu := HLu.out.sl.conv (by have := HLL.out; have := HLM.out; unfold maxLen; omega)
          have cvv := HLv.out.sl.conv (by have := HLL.out; have := HLM.out; unfold maxLen; omega)
          have cvP := HLP.out.sl.conv (by have := HLL.out; have := HLM.out; unfold maxLen; omega)
          have cvU := HLU.out.sl.conv (by have := HLL.out; have := HLM.out; unfold maxLen; omega)
          have cva := HLa.out.sl.conv (by have := HLL.out; have := HLM.out; unfold maxLen; omega)
          have cvb := HLb.out.sl.conv (by have := HLL.out; have := HLM.out; unfold maxLen; omega)
          have cvd := HLd.out.sl.conv (by have := HLL.out; have := HLM.out; unfold maxLen; omega)
          have cvf := HLf.out.sl.conv (by have := HLL.out; have := HLM.out; unfold maxLen; omega)
          obtain ⟨n0, n1, n2, n3, n4, n5, n6, n7, n8, n9, n10, n11⟩ := HNN.out
          have z0 := HZ.out
          have z1 := HSa.out
          have z2 := HSb.out
          have z3 := HSd.out
          have z4 := HSf.out
          have hP := p1_six (B := w3.heap.size) HLp.out HLP.out HLa.out HLu.out HLU.out HLd.out HOp.out HOP.out HOa.out HOu.out HOU.out HOd.out (by omega) (by omega)
          have hap := apart_any w3.heap.size w13.heap.size 6 (by omega) _ _ _ _ hP (fun i hi => by
            have q1 := HLL.out
            have q2 := HLM.out
            refine lt6 (P := fun i => six PA.length PA.length PA2.length UB.length UB.length UB2.length i + 200 ≤ room) ?_ ?_ ?_ ?_ ?_ ?_ i hi <;> (unfold room; simp only [six]; simp; omega))
          have hfin : Below W.heap.size W (w13.alloc (.cells #[.slice pp PA.length cp, .slice pP PA.length cP, .slice pa_ PA2.length ca_, .slice pu UB.length cu, .slice pU UB.length cU, .slice pd UB2.length cd] 22)) := HB.out.alloc HB.out.size _
          have HF := hid (And.intro hfin (show W.heap.size ≤ w3.heap.size by omega))
          clear hP hfin z0 z1 z2 z3 z4 n0 n1 n2 n3 n4 n5 n6 n7 n8 n9 n10 n11 HB HNN HZ HLp HLq HLu HLv HLP HLU HLa HLb HLd HLf HOp HOq HOu HOv HOP HOU HOa HOb HOd HOf HSa HSb HSd HSf
          go_wp2_with fail
          refine hap.mono ?_
          rintro r w15 ⟨rfl, hb15⟩
          have HE := hid (HF.out.1.trans (hb15.mono HF.out.2))
          clear hb15 hap
          go_wp2
          go_ret
          exact ⟨rfl, HE.out⟩
end Go.Proofs.Ytlljelfplffglab.H
