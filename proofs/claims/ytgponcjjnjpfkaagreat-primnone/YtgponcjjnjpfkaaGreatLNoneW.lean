import Derived.Test.YtgponcjjnjpfkaaGreatLMems
import Derived.Test.YtgponcjjnjpfkaaGreatLNoneD
/-! PrimNone, walked. -/
namespace Go.Proofs.YtgponcjjnjpfkaaGreat.L
open Go.RowKit
open Go.Proofs
open P
set_option linter.unusedVariables false
set_option linter.unusedSimpArgs false
set_option maxHeartbeats 4000000
set_option maxRecDepth 100000
theorem WW.c3 {W : World} {B g bd br bm bx bq bz : Nat} {F G : Nat → Prop} {ev qv : Value} {D : List Int} {R : List (Int × Int)} {m : M.MS} (h : WW W B g bd br bm bx bq bz F G ev qv D R m) : W.cell? ⟨g, 0, none⟩ = some (.pointer (some ⟨bd, 0, none⟩)) ∧ W.cell? ⟨g, 1, none⟩ = some (.pointer (some ⟨br, 0, none⟩)) ∧ W.cell? ⟨g, 2, none⟩ = some (.pointer (some ⟨bm, 0, none⟩)) := ⟨h.c6.1, h.c6.2.1, h.c6.2.2.1⟩
theorem none_walk (op : Int) (p q : Option Addr) (c d : Nat) (data : List Int) (ret : List (Int × Int)) (hc : data.length ≤ c) (hd : ret.length ≤ d) (hpc : p = none → c = 0) (hpd : q = none → d = 0) (hr : data.length ≤ S.room) (hr2 : ret.length ≤ S.room) (w : World) (h1 : S.Sl S.eU 1 w p data) (h2 : S.Sl S.eK 2 w q ret) :
    Calls Tryz.prog 7 #[.int .i64 op, .slice p data.length c, .slice q ret.length d] w fun e w' => e = .returned (.bool true) ∧ Below w.heap.size w w' := by
  have hb := born_any p q c d data ret hc hd hpc hpd hr hr2 w h1 h2
  generalize data.take 256 = D at hb
  generalize (ret.take 128).map nk = R at hb
  clear h1 h2 hr hr2 hpc hpd hc hd
  go_enter Tryz.func7, Tryz.ntmps7
  go_wp2_with fail
  refine hb.mono ?_
  rintro e w1 ⟨g, bd, br, bm, bx, bq, bz, F, G, ev, qv, rfl, hW, hb1⟩
  have hfx := fixed_any w1
  have HW1 := S.hid hW
  have HB1 := S.hid hb1
  clear hb hW hb1
  go_wp2_with fail
  refine hfx.mono ?_
  rintro e w2 ⟨rfl, hb2⟩
  have HW2 := S.hid (HW1.out.below hb2)
  have HB2 := S.hid (bel2 HB1.out hb2)
  clear hfx hb2 HW1 HB1
  have hc1 := do_nil op none (some ⟨br, 0, none⟩) (some ⟨bm, 0, none⟩) (.inl rfl) w2.drew
  have s1 := HW2.out.drew.c3
  go_wp2_with fail
  go_region_held (fun w' => w'.cell? ⟨g, 0, none⟩ = some (.pointer (some ⟨bd, 0, none⟩)) ∧ w'.cell? ⟨g, 1, none⟩ = some (.pointer (some ⟨br, 0, none⟩)) ∧ w'.cell? ⟨g, 2, none⟩ = some (.pointer (some ⟨bm, 0, none⟩)))
    (first | (with_reducible exact s1) | (with_reducible exact t1))
    (first | (go_at_call 12; refine hc1.mono ?_; rintro e w3 ⟨rfl, hb3⟩; have hW3 := HW2.out.drew.below hb3; have t1 := hW3.c3; have HW3 := S.hid hW3; have HB3 := S.hid (bel2 HB2.out (bel2 ((Below.refl _ w2).drew) hb3)); clear hW3 hb3 hc1))
  clear t1 HW2 HB2
  have hc2 := do_nil op (some ⟨bd, 0, none⟩) none (some ⟨bm, 0, none⟩) (.inr (.inl rfl)) w3.drew
  have s2 := HW3.out.drew.c3
  go_wp2_with fail
  go_region_held (fun w' => w'.cell? ⟨g, 0, none⟩ = some (.pointer (some ⟨bd, 0, none⟩)) ∧ w'.cell? ⟨g, 1, none⟩ = some (.pointer (some ⟨br, 0, none⟩)) ∧ w'.cell? ⟨g, 2, none⟩ = some (.pointer (some ⟨bm, 0, none⟩)))
    (first | (with_reducible exact s2) | (with_reducible exact t2))
    (first | (go_at_call 12; refine hc2.mono ?_; rintro e w4 ⟨rfl, hb4⟩; have hW4 := HW3.out.drew.below hb4; have t2 := hW4.c3; have HW4 := S.hid hW4; have HB4 := S.hid (bel2 HB3.out (bel2 ((Below.refl _ w3).drew) hb4)); clear hW4 hb4 hc2))
  clear t2 HW3 HB3
  have hc3 := do_nil op (some ⟨bd, 0, none⟩) (some ⟨br, 0, none⟩) none (.inr (.inr rfl)) w4.drew
  have s3 := HW4.out.drew.c3
  go_wp2_with fail
  go_region_held (fun w' => w'.cell? ⟨g, 0, none⟩ = some (.pointer (some ⟨bd, 0, none⟩)) ∧ w'.cell? ⟨g, 1, none⟩ = some (.pointer (some ⟨br, 0, none⟩)) ∧ w'.cell? ⟨g, 2, none⟩ = some (.pointer (some ⟨bm, 0, none⟩)))
    (first | (with_reducible exact s3) | (with_reducible exact t3))
    (first | (go_at_call 12; refine hc3.mono ?_; rintro e w5 ⟨rfl, hb5⟩; have hW5 := HW4.out.drew.below hb5; have t3 := hW5.c3; have HW5 := S.hid hW5; have HB5 := S.hid (bel2 HB4.out (bel2 ((Below.refl _ w4).drew) hb5)); clear hW5 hb5 hc3))
  clear t3 HW4 HB4
  have k7 := do_nil op none none none (.inl rfl) w5
  go_wp2_with fail
  refine k7.mono ?_
  rintro e w6 ⟨rfl, hb6⟩
  have HW6 := S.hid (HW5.out.below hb6)
  have HB6 := S.hid (bel2 HB5.out hb6)
  clear k7 hb6 HW5 HB5
  go_wp2
  go_loopw [12] (fun i wr => ∃ k : Nat, k ≤ 67 ∧ i = .int .i64 ((k : Int) - 1) ∧ WW wr w.heap.size g bd br bm bx bq bz F G ev qv D R mB ∧ Below w.heap.size w wr) (fun i _ => (66 - intOf i).toNat)
  case atStart => exact ⟨0, by omega, rfl, HW6.out, HB6.out⟩
  case round =>
    clear HW6 HB6
    obtain ⟨k, hk, rfl, hW, hB⟩ := hrel
    have HWr := S.hid hW
    have HBr := S.hid hB
    clear hW hB
    by_cases hlt : k < 67
    · have i1 : ((k : Int) - 1 < 66) := by omega
      have kp := plain_any ((k : Int) - 1) wr
      go_wp2_with fail
      refine kp.mono ?_
      rintro e w7 ⟨rfl, hb7⟩
      have HW7 := S.hid (HWr.out.below hb7)
      have HB7 := S.hid (bel2 HBr.out hb7)
      clear kp hb7 HWr HBr
      cases hp : plain ((k : Int) - 1) with
      | true =>
        go_wp2
        go_roundw
        case rel => exact ⟨k + 1, by omega, by go_num, HW7.out, HB7.out⟩
        case measure =>
          have e9 : wrap64 ((k : Int) - 1 + 1) = (k : Int) := by unfold wrap64; omega
          first | (simp [intOf, e9]; omega) | (simp [intOf]; omega) | (simp [intOf]; unfold wrap64; omega)
      | false =>
        have hc8 := do_not ((k : Int) - 1) hp (some ⟨bd, 0, none⟩) (some ⟨br, 0, none⟩) (some ⟨bm, 0, none⟩) w7.drew
        have s8 := HW7.out.drew.c3
        go_wp2_with fail
        go_region_held (fun w' => w'.cell? ⟨g, 0, none⟩ = some (.pointer (some ⟨bd, 0, none⟩)) ∧ w'.cell? ⟨g, 1, none⟩ = some (.pointer (some ⟨br, 0, none⟩)) ∧ w'.cell? ⟨g, 2, none⟩ = some (.pointer (some ⟨bm, 0, none⟩)))
          (first | (with_reducible exact s8) | (with_reducible exact t8))
          (first | (go_at_call 12; refine hc8.mono ?_; rintro e w8 ⟨rfl, hb8⟩; have hW8 := HW7.out.drew.below hb8; have t8 := hW8.c3; have HW8 := S.hid hW8; have HB8 := S.hid (bel2 HB7.out (bel2 ((Below.refl _ w7).drew) hb8)); clear hW8 hb8 hc8))
        clear t8 HW7 HB7
        go_wp2
        go_roundw
        case rel => exact ⟨k + 1, by omega, by go_num, HW8.out, HB8.out⟩
        case measure =>
          have e9 : wrap64 ((k : Int) - 1 + 1) = (k : Int) := by unfold wrap64; omega
          first | (simp [intOf, e9]; omega) | (simp [intOf]; omega) | (simp [intOf]; unfold wrap64; omega)
    · have i1 : ¬ ((k : Int) - 1 < 66) := by omega
      have ks := stacks_any HWr.out
      go_wp2_with fail
      refine ks.mono ?_
      rintro e w7 ⟨rfl, hb7⟩
      have HB7 := S.hid (bel2 HBr.out hb7)
      have km := memories_any (HWr.out.below hb7) (by decide)
      clear ks hb7
      go_wp2_with fail
      refine km.mono ?_
      rintro e w8 ⟨rfl, hb8⟩
      have HB8 := S.hid (bel2 HB7.out hb8)
      clear km hb8
      go_wp2
      go_ret
      exact ⟨rfl, HB8.out⟩
end Go.Proofs.YtgponcjjnjpfkaaGreat.L
