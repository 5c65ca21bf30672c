import Derived.Test.YtlljelfplffglaaHMv
import Derived.Test.YtlljelfplffglaaHLawA
import Derived.Test.YtlljelfplffglaaHUp
import Derived.Test.YtlljelfplffglaaHPk
/-! ShotBack: the walk. -/
namespace Go.Proofs.Ytlljelfplffglaa.H
open Go.RowKit
open Go.Proofs
open Go.Proofs.Ytlljelfplffglaa.K
set_option linter.unusedVariables false
set_option linter.unusedSimpArgs false
set_option maxHeartbeats 4000000
set_option maxRecDepth 100000
theorem bk_art (s : List UInt8) (h : s.length = 3072) : ∃ A : ByteArray, (⟨(art s).toArray⟩ : ByteArray) = A ∧ A.size = 6192 ∧ rdL A = s ∧ rdE A = 0 := by
  refine ⟨_, rfl, by rw [size_list, art_len], ?_, ?_⟩
  · have := rdL_art s
    rw [artE, if_pos h, if_pos h] at this
    exact this
  · have e : (⟨(art s).toArray⟩ : ByteArray).data.toList = art s := List.toList_toArray
    have : okb ⟨(art s).toArray⟩ = true := (okb_is _).2 ⟨by rw [size_list, art_len], by rw [e, rd_art s h]⟩
    rw [rdE, if_pos this]
theorem bk_pk (s : List UInt8) (h : s.length = 3072) : ∃ P : List UInt8, pk s = P ∧ 24 ≤ P.length ∧ P.length ≤ 6144 ∧ unL P = s ∧ unE P = 0 := by
  have h1 := pk_least s
  have h2 := pk_most s
  refine ⟨_, rfl, by omega, by omega, ?_, ?_⟩
  · rw [unL, un_pk s h]; rfl
  · rw [unE, un_pk s h]; rfl
theorem bk_rd (a : ByteArray) : ∃ X : List UInt8, rdL a = X ∧ ((rdE a = 0 ∧ X.length = 3072 ∧ (⟨(art X).toArray⟩ : ByteArray) = a) ∨ (rdE a = 2 ∧ X = [])) := by
  cases h : okb a
  · refine ⟨_, rfl, Or.inr ⟨by rw [rdE, h]; rfl, by rw [rdL, h]; rfl⟩⟩
  · have ho := (okb_is a).1 h
    refine ⟨_, rfl, Or.inl ⟨by rw [rdE, if_pos h], by rw [rdL, if_pos h, rd_len], ?_⟩⟩
    rw [rdL, if_pos h]
    exact (str_eq a _).2 ho.2
theorem bk_un (b : List UInt8) : ∃ X : List UInt8, unL b = X ∧ ((unE b = 0 ∧ X.length = 3072 ∧ pk X = b) ∨ (unE b = 2 ∧ X = [])) := by
  by_cases h : (up b).length = 3072 ∧ pk (up b) = b
  · have e : un b = some (up b) := by rw [un, if_pos h]
    exact ⟨_, rfl, Or.inl ⟨by rw [unE, e]; rfl, by rw [unL, e]; exact h.1, by rw [unL, e]; exact h.2⟩⟩
  · have e : un b = none := by rw [un, if_neg h]
    exact ⟨_, rfl, Or.inr ⟨by rw [unE, e]; rfl, by rw [unL, e]; rfl⟩⟩
theorem back_walk (va vc : Value) (la : List UInt8) (a : ByteArray) (lc : List UInt8) (hla : la.length ≤ room) (hlc : lc.length ≤ room) (W : World) (ha : Sl W va la) (hc : Sl W vc lc) :
    Calls Try.prog 7 #[va, .string a, vc] W fun r w' => r = .returned (.bool true) ∧ Below W.heap.size W w' := by
  obtain ⟨pa, ca, rfl, _⟩ := ha.ex
  obtain ⟨pc, cc, rfl, _⟩ := hc.ex
  have HG := hid (And.intro ha hc)
  have HLC := hid hlc
  clear ha hc hlc
  go_enter Try.func7, Try.ntmps7
  go_wp2_with fail
  refine (screen_any _ la hla W HG.out.1).mono ?_
  rintro e w1 ⟨gs, xs, s, rfl, hsl, hrs, hb1⟩
  have HB := hid hb1
  have HC := hid (HG.out.2.below hb1)
  have HS := hid hrs
  have HSL := hid hsl
  have q1 := art_any _ s w1 hrs.sl
  simp only [hsl, if_true] at q1
  obtain ⟨A, hA, hA1, hA2, hA3⟩ := bk_art s hsl
  rw [hA] at q1
  have HAA := hid (And.intro hA1 (And.intro hA2 hA3))
  clear hb1 hrs hsl hA hA1 hA2 hA3 HG hla
  go_wp2_with fail
  refine q1.mono ?_
  rintro e w2 ⟨rfl, hb2⟩
  have HB := hid (HB.out.trans (hb2.mono HB.out.size))
  have HC := hid (HC.out.below hb2)
  have HS := hid (HS.out.below hb2)
  clear hb2 q1
  have q1 := pack_any _ s w2 HS.out.sl
  simp only [HSL.out, if_true] at q1
  obtain ⟨P, hP, hP1, hP2, hP3, hP4⟩ := bk_pk s HSL.out
  rw [hP] at q1
  have HP := hid (And.intro (And.intro hP1 hP2) (And.intro hP3 hP4))
  clear hP hP1 hP2 hP3 hP4
  go_wp2_with fail
  refine q1.mono ?_
  rintro e w3 ⟨u, rfl, hr3, hb3⟩
  obtain ⟨p3, c3, rfl⟩ := own_val hr3
  have HB := hid (HB.out.trans (hb3.mono HB.out.size))
  have HC := hid (HC.out.below hb3)
  have HS := hid (HS.out.below hb3)
  have HR := hid hr3
  clear hb3 hr3 q1
  have q1 := read_is A w3
  rw [HAA.out.2.1, HAA.out.2.2, HSL.out] at q1
  go_wp2_with fail
  refine q1.mono ?_
  rintro e w4 ⟨p4, c4, rfl, hr4, hb4⟩
  have HB := hid (HB.out.trans (hb4.mono HB.out.size))
  have HC := hid (HC.out.below hb4)
  have HS := hid (HS.out.below hb4)
  have HR := hid (HR.out.below hb4)
  have HX := hid hr4
  clear hb4 hr4 q1
  have q1 := unpack_any _ P (by have := HP.out.1.2; unfold room; omega) w4 HR.out.sl
  rw [HP.out.2.1, HP.out.2.2, HSL.out] at q1
  go_wp2_with fail
  refine q1.mono ?_
  rintro e w5 ⟨p5, c5, rfl, hr5, hb5⟩
  have HB := hid (HB.out.trans (hb5.mono HB.out.size))
  have HC := hid (HC.out.below hb5)
  have v1 := (HX.out.below hb5).sl.conv (by rw [HSL.out]; decide)
  have v2 := hr5.sl.conv (by rw [HSL.out]; decide)
  have v3 := (HS.out.below hb5).sl.conv (by rw [HSL.out]; decide)
  have i1 : (A.size : Int) = 6192 := by rw [HAA.out.1]; rfl
  have i1b := HAA.out.1
  have i2 : ¬ (P.length : Int) < 24 := by have := HP.out.1.1; omega
  have i3 : ¬ (6144 : Int) < (P.length : Int) := by have := HP.out.1.2; omega
  have i6 : (24 : Int) ≤ (P.length : Int) := by have := HP.out.1.1; omega
  have i7 : (P.length : Int) ≤ 6144 := by have := HP.out.1.2; omega
  have i4 : ¬ P.length < 24 := by have := HP.out.1.1; omega
  have i5 : ¬ 6144 < P.length := by have := HP.out.1.2; omega
  clear hb5 hr5 q1 HS HX HR
  --1
  go_wp2_with fail
  refine (fixed_any w5).mono ?_
  rintro e w6 ⟨rfl, hb6⟩
  have HB := hid (HB.out.trans (hb6.mono HB.out.size))
  have HC := hid (HC.out.below hb6)
  clear hb6 v1 v2 v3 i1 i1b i2 i3 i4 i5 HP HAA HSL
  obtain ⟨X, hX, hXX⟩ := bk_rd a
  have q1 := read_is a w6
  rw [hX] at q1
  have HXX := hid hXX
  clear hX hXX
  generalize rdE a = g at *
  go_wp2_with fail
  refine q1.mono ?_
  rintro e w7 ⟨p7, c7, rfl, hr7, hb7⟩
  have HB := hid (HB.out.trans (hb7.mono HB.out.size))
  have HC := hid (HC.out.below hb7)
  have HX := hid hr7
  clear hb7 hr7 q1 i6 i7
  obtain ⟨Y, hY, hYY⟩ := bk_un lc
  have q1 := unpack_any _ lc HLC.out w7 HC.out
  rw [hY] at q1
  have HYY := hid hYY
  clear hY hYY
  generalize unE lc = h at *
  go_wp2_with fail
  refine q1.mono ?_
  rintro e w8 ⟨p8, c8, rfl, hr8, hb8⟩
  have HB := hid (HB.out.trans (hb8.mono HB.out.size))
  have HC := hid (HC.out.below hb8)
  have HX := hid (HX.out.below hb8)
  have HY := hid hr8
  clear hb8 hr8 q1
  --2
  rcases HXX.out with ⟨rfl, hXl, hXa⟩ | ⟨rfl, rfl⟩
  · have q2 := fun w (hs : Sl w (.slice p7 X.length c7) X) => art_any _ X w hs
    simp only [hXl, if_true] at q2
    rw [hXa] at q2
    have hX72 : (X.length : Int) = 3072 := by omega
    have HX := hid (hXl ▸ HX.out)
    have HQ2 := hid q2
    clear q2 hXa HXX
    rcases HYY.out with ⟨rfl, hYl, hYp⟩ | ⟨rfl, rfl⟩
    · have HYl := hid hYl
      have HYp := hid hYp
      clear hYl hYp
      rw [hXl, HYl.out]
      clear hX72 hXl
      go_wp2_with fail
      refine (HQ2.out w8 HX.out.sl).mono ?_
      rintro e w9 ⟨rfl, hb9⟩
      have HB := hid (HB.out.trans (hb9.mono HB.out.size))
      have HC := hid (HC.out.below hb9)
      have q3 := pack_any (.slice p8 3072 c8) Y w9 (by have := (HY.out.below hb9).sl; rw [HYl.out] at this; exact this)
      simp only [HYl.out, if_true] at q3
      rw [HYp.out] at q3
      clear hb9
      go_wp2_with fail
      refine q3.mono ?_
      rintro e w10 ⟨u, rfl, hr10, hb10⟩
      obtain ⟨p10, c10, rfl⟩ := own_val hr10
      have HB := hid (HB.out.trans (hb10.mono HB.out.size))
      have v1 := hr10.sl.conv (by have := HLC.out; unfold maxLen; unfold room at this; omega)
      have v2 := (HC.out.below hb10).conv (by have := HLC.out; unfold maxLen; unfold room at this; omega)
      clear hb10 hr10 q3
      go_wp2
      go_ret
      exact ⟨rfl, HB.out⟩
    · rw [hXl]
      clear hX72 hXl
      go_wp2_with fail
      refine (HQ2.out w8 HX.out.sl).mono ?_
      rintro e w9 ⟨rfl, hb9⟩
      have HB := hid (HB.out.trans (hb9.mono HB.out.size))
      clear hb9
      go_wp2
      go_ret
      exact ⟨rfl, HB.out⟩
  · clear HXX
    rcases HYY.out with ⟨rfl, hYl, hYp⟩ | ⟨rfl, rfl⟩
    · have q3 := pack_any (.slice p8 3072 c8) Y w8 (by have := HY.out.sl; rw [hYl] at this; exact this)
      simp only [hYl, if_true] at q3
      rw [hYp] at q3
      rw [hYl]
      clear hYl hYp
      go_wp2_with fail
      refine q3.mono ?_
      rintro e w10 ⟨u, rfl, hr10, hb10⟩
      obtain ⟨p10, c10, rfl⟩ := own_val hr10
      have HB := hid (HB.out.trans (hb10.mono HB.out.size))
      have v1 := hr10.sl.conv (by have := HLC.out; unfold maxLen; unfold room at this; omega)
      have v2 := (HC.out.below hb10).conv (by have := HLC.out; unfold maxLen; unfold room at this; omega)
      clear hb10 hr10 q3
      go_wp2
      go_ret
      exact ⟨rfl, HB.out⟩
    · clear HYY
      go_wp2
      go_ret
      exact ⟨rfl, HB.out⟩
end Go.Proofs.Ytlljelfplffglaa.H
