import Derived.Test.YtmlpijjjkpnioaaDoorCAptC
import Derived.Test.YtmlpijjjkpnioaaDoorCRDec
import Derived.Test.YtmlpijjjkpnioaaDoorCKnownW
/-! CartDecodes, walked. -/
namespace Go.Proofs.YtmlpijjjkpnioaaDoor.C
open Go.RowKit
open Go.Proofs
open Go.Proofs.YtmlpijjjkpnioaaDoor.K
set_option linter.unusedVariables false
set_option linter.unusedSimpArgs false
set_option maxHeartbeats 4000000
set_option maxRecDepth 100000
theorem dec_small (b : List UInt8) : Ints (decB b).2 ∧ (decB b).2.code.length ≤ 1048576 ∧ (decB b).2.effs.length ≤ 1048576 ∧ (decB b).2.banks.length ≤ 16 ∧ ∀ x ∈ (decB b).2.banks, x.2.length ≤ 1048576 := by
  have key : may (decB b).2 = true ∧ Fit (decB b).2 := by
    rcases dec_err b with h | ⟨_, h⟩
    · obtain ⟨h1, h2, _⟩ := enc_dec (b := b) (c := (decB b).2) (by rw [← h])
      exact ⟨h1, h2⟩
    · rw [h]; exact ⟨may0, fit0⟩
  obtain ⟨hm, hf⟩ := key
  generalize (decB b).2 = c at *
  obtain ⟨h1, h2, h3⟩ := may_parts hm
  have hb := may_many hm
  have hd := bank_dts c.banks (-1) h3
  simp only [codeB, decide_eq_true_eq] at h1
  simp only [effsB, Bool.and_eq_true, decide_eq_true_eq] at h2
  refine ⟨may_ints hm hf, by omega, by omega, by omega, fun x hx => ?_⟩
  simp only [dts, List.all_eq_true, List.mem_map] at hd
  have h4 : x.2.length ≤ 16384 := by have := hd (bsec x) ⟨x, hx, rfl⟩; simp only [bsec, datOk] at this; exact of_decide_eq_true this
  omega
theorem OwC.lts {W : World} {B : Nat} {v : Value} {c : Ct} {kv ev bv : Value} {prs : List (Bk × Value)} (h : OwC W B v c kv ev bv prs) (g : Nat) (hg : kv.ownBlock = some g ∨ ev.ownBlock = some g ∨ bv.ownBlock = some g ∨ ∃ x ∈ prs, x.2.ownBlock = some g) : g < W.heap.size := by
  rcases hg with e | e | e | ⟨x, hx, e⟩
  · exact (h.code.lt g e).2
  · exact (h.effs.lt g e).2
  · exact (h.banks.lt g e).2
  · exact ((h.dat x hx).lt g e).2
theorem decodes_walk (v : Value) (b : List UInt8) (W : World) (h : Sl W v b) (hT : Tab W) (hl : b.length + 4096 ≤ room) :
    Calls Tryd.prog 6 #[v] W fun e w' => e = .returned (.bool true) ∧ Below W.heap.size W w' := by
  obtain ⟨p, cp, rfl, _⟩ := h.ex
  have hds := dec_small b
  obtain ⟨n, hn⟩ : ∃ n : Nat, (decB b).1 = n := ⟨_, rfl⟩
  obtain ⟨d, hd⟩ : ∃ d : Ct, (decB b).2 = d := ⟨_, rfl⟩
  rw [hd] at hds
  have HD := hid (And.intro hn hd)
  have HDS := hid hds
  have HV := hid h
  have HT := hid hT
  clear hn hd hds h hT
  go_enter Tryd.func6, Tryd.ntmps6
  go_wp2_with fail
  refine (roomy_any _ b (by omega) W HV.out).mono ?_
  rintro e w1 ⟨u, rfl, hru, k1⟩
  obtain ⟨gk, ck, rfl, _⟩ := id hru
  have HRU := hid hru
  have HK1 := hid k1
  have HT1 := hid (HT.out.below k1 HT.out.pos)
  clear hru k1
  go_wp2_with fail
  refine (decode_any _ b (by omega) w1 HRU.out.sl HT1.out).mono ?_
  rintro e w2 ⟨⟨v2, rfl, kv2, ev2, bv2, prs2, hO2⟩, hb2⟩
  rw [HD.out.1] 
  rw [HD.out.2] at hO2
  obtain ⟨kp2, kn2, kc2, ep2, en2, ec2, bp2, bn2, bc2, rfl, rfl, rfl⟩ := hO2.form
  have hv2 := hO2.val
  subst hv2
  obtain ⟨x2, hx2⟩ : ∃ x, x = w2.alloc (.cells #[.slice kp2 kn2 kc2, .int .u16 (d.entry : Int), .slice ep2 en2 ec2, .slice bp2 bn2 bc2] 27) := ⟨_, rfl⟩
  obtain ⟨g2, hg2⟩ : ∃ g, g = w2.heap.size := ⟨_, rfl⟩
  have hbx2 : Below w2.heap.size w2 x2 := by rw [hx2]; exact (Below.refl _ _).alloc (Nat.le_refl _) _
  have hn2 : x2.heap[g2]? = some (.cells [.slice kp2 kn2 kc2, .int .u16 (d.entry : Int), .slice ep2 en2 ec2, .slice bp2 bn2 bc2].toArray 27 (0, 0)) := by rw [hx2, hg2]; exact heap_alloc_new w2 _
  have HO2 := hid hO2
  have HB2 := hid (hb2.trans (hbx2.mono hb2.size))
  have HN2 := hid hn2
  have HX2 := hid (And.intro hx2 hg2)
  have HS2 := hid hbx2
  have HL2 := hid hb2.size
  clear hO2 hb2 hbx2 hn2 hx2 hg2
  have HT2 := hid (HT1.out.below HB2.out HT1.out.pos)
  go_upto_region 3 with fail
  rw [← HX2.out.1, ← HX2.out.2]
  go_wp2_with fail
  refine (decode_any _ b (by omega) x2 (HRU.out.sl.below HB2.out) HT2.out).mono ?_
  rintro e w3 ⟨⟨v3, rfl, kv3, ev3, bv3, prs3, hO3⟩, hb3⟩
  rw [HD.out.1] 
  rw [HD.out.2] at hO3
  obtain ⟨kp3, kn3, kc3, ep3, en3, ec3, bp3, bn3, bc3, rfl, rfl, rfl⟩ := hO3.form
  have hv3 := hO3.val
  subst hv3
  obtain ⟨x3, hx3⟩ : ∃ x, x = w3.alloc (.cells #[.slice kp3 kn3 kc3, .int .u16 (d.entry : Int), .slice ep3 en3 ec3, .slice bp3 bn3 bc3] 27) := ⟨_, rfl⟩
  obtain ⟨g3, hg3⟩ : ∃ g, g = w3.heap.size := ⟨_, rfl⟩
  have hbx3 : Below w3.heap.size w3 x3 := by rw [hx3]; exact (Below.refl _ _).alloc (Nat.le_refl _) _
  have hn3 : x3.heap[g3]? = some (.cells [.slice kp3 kn3 kc3, .int .u16 (d.entry : Int), .slice ep3 en3 ec3, .slice bp3 bn3 bc3].toArray 27 (0, 0)) := by rw [hx3, hg3]; exact heap_alloc_new w3 _
  have HO3 := hid hO3
  have HB3 := hid (hb3.trans (hbx3.mono hb3.size))
  have HN3 := hid hn3
  have HX3 := hid (And.intro hx3 hg3)
  have HS3 := hid hbx3
  have HL3 := hid hb3.size
  clear hO3 hb3 hbx3 hn3 hx3 hg3
  have HT3 := hid (HT2.out.below HB3.out HT2.out.pos)
  go_upto_region 4 with fail
  rw [← HX3.out.1, ← HX3.out.2]
  go_wp2_with fail
  refine (rdecode_any _ b (by omega) x3 (HV.out.below (HK1.out.trans ((HB2.out.trans (HB3.out.mono HB2.out.size)).mono HK1.out.size)))).mono ?_
  rintro e w4 ⟨⟨v4, rfl, kv4, ev4, bv4, prs4, hO4⟩, hb4⟩
  rw [HD.out.1] 
  rw [HD.out.2] at hO4
  obtain ⟨kp4, kn4, kc4, ep4, en4, ec4, bp4, bn4, bc4, rfl, rfl, rfl⟩ := hO4.form
  have hv4 := hO4.val
  subst hv4
  obtain ⟨x4, hx4⟩ : ∃ x, x = w4.alloc (.cells #[.slice kp4 kn4 kc4, .int .u16 (d.entry : Int), .slice ep4 en4 ec4, .slice bp4 bn4 bc4] 27) := ⟨_, rfl⟩
  obtain ⟨g4, hg4⟩ : ∃ g, g = w4.heap.size := ⟨_, rfl⟩
  have hbx4 : Below w4.heap.size w4 x4 := by rw [hx4]; exact (Below.refl _ _).alloc (Nat.le_refl _) _
  have hn4 : x4.heap[g4]? = some (.cells [.slice kp4 kn4 kc4, .int .u16 (d.entry : Int), .slice ep4 en4 ec4, .slice bp4 bn4 bc4].toArray 27 (0, 0)) := by rw [hx4, hg4]; exact heap_alloc_new w4 _
  have HO4 := hid hO4
  have HB4 := hid (hb4.trans (hbx4.mono hb4.size))
  have HN4 := hid hn4
  have HX4 := hid (And.intro hx4 hg4)
  have HS4 := hid hbx4
  have HL4 := hid hb4.size
  clear hO4 hb4 hbx4 hn4 hx4 hg4
  go_upto_region 5 with fail
  rw [← HX4.out.1, ← HX4.out.2]
  have B34 := HB4.out
  have B24 := HB3.out.trans (HB4.out.mono HB3.out.size)
  have B14 := HB2.out.trans (B24.mono HB2.out.size)
  have hz2 := HS2.out.size
  have z2 : g2 < x2.heap.size := lt_of HN2.out
  have z3 : g3 < x3.heap.size := lt_of HN3.out
  have z23 := HB3.out.size
  have z34 := HB4.out.size
  have z12 := HB2.out.size
  have n2 := (B24.block _ z2).trans HN2.out
  have n3 := (B34.block _ z3).trans HN3.out
  have o2 := (HO2.out.below HS2.out).below B24
  have o3 := (HO3.out.below HS3.out).below B34
  have o4 := HO4.out.below HS4.out
  obtain ⟨fe2, fc2, fb2, fd2, i2⟩ := o2.isC HDS.out.1
  obtain ⟨fe3, fc3, fb3, fd3, i3⟩ := o3.isC HDS.out.1
  obtain ⟨fe4, fc4, fb4, fd4, i4⟩ := o4.isC HDS.out.1
  have hsm := same_true _ _ d _ _ _ _ _ _ _ _ _ _ x4 i2 i4
  have m20 := cell_of x4 g2 0 _ 27 _ n2 rfl
  have m21 := cell_of x4 g2 1 _ 27 _ n2 rfl
  have m22 := cell_of x4 g2 2 _ 27 _ n2 rfl
  have m23 := cell_of x4 g2 3 _ 27 _ n2 rfl
  have m40 := cell_of x4 g4 0 _ 27 _ HN4.out rfl
  have m41 := cell_of x4 g4 1 _ 27 _ HN4.out rfl
  have m42 := cell_of x4 g4 2 _ 27 _ HN4.out rfl
  have m43 := cell_of x4 g4 3 _ 27 _ HN4.out rfl
  have HN2' := hid n2
  have HN3' := hid n3
  have HO2' := hid o2
  have HO3' := hid o3
  have HO4' := hid o4
  have HB14 := hid B14
  have q2 : w2.heap.size ≤ g2 := by rw [HX2.out.2]; exact Nat.le_refl _
  have q3 : x2.heap.size ≤ g3 := by rw [HX3.out.2]; exact HL3.out
  have q4 : x3.heap.size ≤ g4 := by rw [HX4.out.2]; exact HL4.out
  have z4 : g4 < x4.heap.size := lt_of HN4.out
  have hl2 := HL2.out
  clear n2 n3 o2 o3 o4 i2 i3 i4 B34 B24 B14
  go_wp2_with (refine (num_any _ _).mono ?_; rintro e wn ⟨rfl, hwn⟩; rw [hwn]; clear hwn wn)
  refine hsm.mono ?_
  rintro e x5 ⟨rfl, k5⟩
  have z5 := k5.size
  have hap := apartc_any _ d _ _ _ prs2 w1.heap.size w2.heap.size x5 (HO2'.out.below k5) (by omega) (by omega) HDS.out.2.1 HDS.out.2.2.1 HDS.out.2.2.2.1 HDS.out.2.2.2.2 HO2.out.lts
  have n2 := (k5.block _ (lt_of HN2'.out)).trans HN2'.out
  have n3 := (k5.block _ (lt_of HN3'.out)).trans HN3'.out
  have n4 := (k5.block _ (lt_of HN4.out)).trans HN4.out
  have HO3' := hid (HO3'.out.below k5)
  have HO4' := hid (HO4'.out.below k5)
  have HB15 := hid (HB14.out.trans (k5.mono (by omega)))
  have HN3' := hid n3
  have HN4' := hid n4
  clear hsm k5 n3 n4 m20 m21 m22 m23 m40 m41 m42 m43
  have m20 := cell_of x5 g2 0 _ 27 _ n2 rfl
  have m21 := cell_of x5 g2 1 _ 27 _ n2 rfl
  have m22 := cell_of x5 g2 2 _ 27 _ n2 rfl
  have m23 := cell_of x5 g2 3 _ 27 _ n2 rfl
  clear n2
  go_wp2_with fail
  refine hap.mono ?_
  rintro e x6 ⟨rfl, k6, kq⟩
  have n3 := (kq _ (by omega) (lt_of HN3'.out)).trans HN3'.out
  have n4 := (kq _ (by omega) (lt_of HN4'.out)).trans HN4'.out
  have o3 := HO3'.out.kept (W' := x6) fun g h1 h2 => kq g (by omega) h2
  have o4 := HO4'.out.kept (W' := x6) fun g h1 h2 => kq g (by omega) h2
  obtain ⟨fe3, fc3, fb3, fd3, i3⟩ := o3.isC HDS.out.1
  obtain ⟨fe4, fc4, fb4, fd4, i4⟩ := o4.isC HDS.out.1
  have hsm := same_true _ _ d _ _ _ _ _ _ _ _ _ _ x6 i3 i4
  have HB16 := hid (HB15.out.trans k6)
  clear hap k6 kq o3 o4 i3 i4 m20 m21 m22 m23
  have m30 := cell_of x6 g3 0 _ 27 _ n3 rfl
  have m31 := cell_of x6 g3 1 _ 27 _ n3 rfl
  have m32 := cell_of x6 g3 2 _ 27 _ n3 rfl
  have m33 := cell_of x6 g3 3 _ 27 _ n3 rfl
  have m40 := cell_of x6 g4 0 _ 27 _ n4 rfl
  have m41 := cell_of x6 g4 1 _ 27 _ n4 rfl
  have m42 := cell_of x6 g4 2 _ 27 _ n4 rfl
  have m43 := cell_of x6 g4 3 _ 27 _ n4 rfl
  clear n3 n4
  go_wp2_with fail
  refine hsm.mono ?_
  rintro e x7 ⟨rfl, k7⟩
  have HB17 := hid (HB16.out.trans (k7.mono HB16.out.size))
  clear hsm k7 m30 m31 m32 m33 m40 m41 m42 m43
  go_wp2_with fail
  refine (aswas_any W.heap.size _ _ b (by omega) x7 (roomed_kt HRU.out (T := 27) (by decide) (KT.below HB17.out)) (HV.out.below (HK1.out.trans (HB17.out.mono HK1.out.size)))).mono ?_
  rintro e x8 ⟨rfl, q8, hx8⟩
  have HB18 := hid (show Below w1.heap.size w1 x8 by rw [hx8]; exact ⟨HB17.out.os, HB17.out.tape, HB17.out.output, HB17.out.size, HB17.out.block⟩)
  clear hx8
  go_wp2_with fail
  refine (known_any x8 (HT1.out.below HB18.out HT1.out.pos)).mono ?_
  rintro e x9 ⟨rfl, k9⟩
  have HB19 := hid (HK1.out.trans ((HB18.out.trans (k9.mono HB18.out.size)).mono HK1.out.size))
  clear k9
  go_wp2
  go_ret
  exact ⟨rfl, HB19.out⟩
end Go.Proofs.YtmlpijjjkpnioaaDoor.C
