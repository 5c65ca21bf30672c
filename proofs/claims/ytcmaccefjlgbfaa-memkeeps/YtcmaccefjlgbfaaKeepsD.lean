import Derived.Test.YtcmaccefjlgbfaaKeeps
import Derived.BigQuiet
/-! MemKeeps. -/
namespace Go.Proofs.Ytcmaccefjlgbfaa
open Go.RowKit
open Go.Proofs
set_option linter.unusedVariables false
set_option linter.unusedSimpArgs false
set_option maxHeartbeats 4000000
set_option maxRecDepth 100000
theorem keeps_a0 (p : Option Addr) (c : Nat) (bs : List (Int × List UInt8)) (hl : bs.length * 32 ≤ room) (hd : ∀ t ∈ bs, t.2.length + 1 ≤ room) (at_ : Int) (at0 : 0 ≤ at_) (at1 : at_ < 65536) (x : UInt8) (po : Option Addr) (co : Nat) (os : List Int) (ho : os.length * 2 ≤ room) (w : World) (h : BnS w p bs) (hos : OsS w po os) (hm : mayB (-1) bs = true)
    (hbs : Hid (bs = [])) (ha : at_ < 16384) :
    Calls Try.prog 3 #[.slice p bs.length c, .agg #[.int .u16 at_, .int .u8 (bt x)], .slice po os.length co] w fun e w' => e = .returned (.bool true) ∧ Below w.heap.size w w' := by
  have hb0 : Below w.heap.size w (w.alloc (.cells #[.int .u16 at_, .int .u8 (bt x)] 25)).drew := ((Below.refl _ w).alloc (Nat.le_refl _) _).drew
  have how := ownBanks_any p c bs hl hd (w.alloc (.cells #[.int .u16 at_, .int .u8 (bt x)] 25)).drew (h.below hb0)
  have hl1 : bs.length ≤ room := by omega
  unfold room at ho
  have dc0 : decide (16384 ≤ at_) = false := by simp; omega
  have dc1 : decide (32768 ≤ at_) = false := by simp; omega
  have dc2 : decide (at_ < 16384) = true := by simp; omega
  go_enter Try.func3, Try.ntmps3
  go_wp2_with fail
  go_region
  go_wp2_with fail
  refine how.mono ?_
  rintro e w2 ⟨u, gs, rfl, hO, hb⟩
  obtain ⟨p2, c2, rfl, hn2⟩ := hO.ex (fun t ht => by have := hd t ht; omega)
  have hb2 : Below w.heap.size w w2 := hb0.trans (hb.mono hb0.size)
  have hnw := newN p2 c2 bs hl1 w2 hn2 hm
  clear how hb hO
  go_wp2_with fail
  refine hnw.mono ?_
  rintro e w3 ⟨b, rfl, hM, hb⟩
  replace hM : HasM w3 (fun k => w.heap.size ≤ k) b (mN bs) := hM.mono fun i _ hi => Nat.le_trans hb2.size hi
  replace hb2 := hb2.trans (hb.mono hb2.size)
  clear hnw hb
  have haw := awake_any w3
  go_wp2_with fail
  refine haw.mono ?_
  rintro e w4 ⟨rfl, hb⟩
  replace hM := hM.below hb
  replace hb2 := hb2.trans (hb.mono hb2.size)
  clear haw hb hb0 hn2 w2
  have hM2 := hM
  have htm : (mN bs : MS).time = 0 := rfl
  generalize (mN bs : MS) = m2 at hM2 htm
  have hI : Inv False (bg m2 77) := ⟨rfl, rfl, by simp [bg, htm], fun f => f.elim⟩
  have hlen : decide ((0 : Int) < (bs.length : Int)) = false := by rw [hbs.out]; rfl
  have hlen2 : decide (0 < bs.length) = false := by rw [hbs.out]; rfl
  clear hM htm hbs hm hl hl1
  obtain ⟨w5, hw5⟩ : ∃ w5, w5 = w4 := ⟨_, rfl⟩
  rw [← hw5] at hM2 hb2
  obtain rfl := hw5
  have hbg := begin_any b 77 w5 hM2
  rw [show bt 77 = 77 from rfl] at hbg
  go_wp2_with fail
  refine hbg.mono ?_
  rintro e w6 ⟨rfl, hD⟩
  have hK : KS w w6 b False (bg m2 77) := by
    obtain ⟨hM3, hb⟩ := hD.below hb2.size
    exact ⟨hM3, hb2.trans hb, hI⟩
  generalize bg m2 77 = m3 at hK
  clear hbg hD hI hM2 hb2 h hd
  have H6 : Hid _ := hK
  clear hK
  go_wp2
  go_loopw [62] (fun i wr => ∃ (k : Nat) (m : MS), k ≤ os.length ∧ i = .int .i64 (k : Int) ∧ KS w wr b False m) (fun i _ => os.length - (intOf i).toNat)
  case atStart => exact ⟨0, m3, by omega, rfl, H6.out⟩
  case round =>
    clear H6
    obtain ⟨k, m, hk, rfl, hK⟩ := hrel
    by_cases hlt : k < os.length
    · have i1 : (k : Int) < os.length := by omega
      obtain ⟨ob, oo2, rfl, c1, z0, z1⟩ := hos.below hK.bel k os[k] (List.getElem?_eq_getElem hlt)
      generalize os[k] = z at *
      have HK : Hid _ := hK
      clear hK
      go_wp2_with fail
      refine (plain_any z wr).mono ?_
      rintro e w7 ⟨rfl, h7⟩
      obtain rfl := h7.symm
      by_cases q1 : 16384 ≤ z
      · by_cases q2 : z < 52224
        · have g1 : decide (16384 ≤ z) = true := by simpa using q1
          have g2 : decide (z < 52224) = true := by simpa using q2
          have hst := store_any b z z0 z1 (b8 ((k : Int) + 1)) wr HK.out.has (by rw [HK.out.inv.tones]; decide)
          have e8 : IntKind.u8.wrap ((k : Int) + 1) = bt (b8 ((k : Int) + 1)) := by rw [u8_wrap, bt_b8]
          go_wp2_with fail
          refine hst.mono ?_
          rintro e w8 ⟨rfl, hD⟩
          have hK2 : KS w w8 b False (st m z (b8 ((k : Int) + 1))) := by
            obtain ⟨hM3, hb⟩ := hD.below HK.out.bel.size
            exact ⟨hM3, HK.out.bel.trans hb, HK.out.inv.st z _ (by omega)⟩
          have HK2 : Hid _ := hK2
          clear hK2 hD hst HK e8
          go_wp2
          go_roundw
          case rel =>
            first
              | exact ⟨k + 1, _, by omega, by go_num, HK2.out⟩
              | ((repeat apply Exists.intro); refine ⟨⟨k + 1, _, by omega, ?_, HK2.out⟩, rfl⟩; go_num)
          case measure => simp [intOf]; omega
        · have g1 : decide (16384 ≤ z) = true := by simpa using q1
          have g2 : decide (z < 52224) = false := by simpa using q2
          go_wp2
          go_roundw
          case rel =>
            first
              | exact ⟨k + 1, _, by omega, by go_num, HK.out⟩
              | ((repeat apply Exists.intro); refine ⟨⟨k + 1, _, by omega, ?_, HK.out⟩, rfl⟩; go_num)
          case measure => simp [intOf]; omega
      · have g1 : decide (16384 ≤ z) = false := by simpa using q1
        go_wp2
        go_roundw
        case rel =>
          first
            | exact ⟨k + 1, _, by omega, by go_num, HK.out⟩
            | ((repeat apply Exists.intro); refine ⟨⟨k + 1, _, by omega, ?_, HK.out⟩, rfl⟩; go_num)
        case measure => simp [intOf]; omega
    · obtain rfl : k = os.length := by omega
      have hos2 := hos.below hK.bel
      have h2 : K2 w wr.heap.size wr b False m os (.slice none 0 0) 0 := K2.start hK os
      generalize wr.heap.size = N at h2
      have H2 : Hid _ := h2
      clear hK h2 hos2
      go_wp2
      go_loopw [13, 78] (fun v i wr => ∃ k : Nat, k ≤ os.length ∧ i = .int .i64 (k : Int) ∧ K2 w N wr b False m os v k) (fun _ i _ => os.length - (intOf i).toNat)
      case atStart => exact ⟨0, by omega, rfl, H2.out⟩
      case round =>
        clear H2
        obtain ⟨k, hk, rfl, hK⟩ := hrel
        by_cases hlt : k < os.length
        · have i1 : (k : Int) < os.length := by omega
          obtain ⟨ob, oo2, rfl, c1, z0, z1⟩ := hos.below hK.bel k os[k] (List.getElem?_eq_getElem hlt)
          have hE := hK.next hlt
          have hl3 := load_any b os[k] z0 z1 wr hK.has
          have hlb := (ld_bound m hK.has.wf os[k])
          have e8 : ld m os[k] = bt (b8 (ld m os[k])) := by rw [bt_b8]; omega
          generalize hy : b8 (ld m os[k]) = y at *
          rw [e8] at hl3
          generalize os[k] = z at *
          have HE : Hid _ := hE
          have HR : Hid _ := hK.row
          have HN : Hid _ := hK.size
          clear hK hE hlb e8 hy
          go_wp2_with fail
          refine hl3.mono ?_
          rintro e w7 ⟨rfl, q, rfl⟩
          have hm := (row_of_alloc (wr.drewN q) N (show N ≤ (wr.drewN q).heap.size from HN.out) [y] (by simp [maxLen])).sl
          have hr1 : Row ((wr.drewN q).alloc (.cells (bv [y]).toArray 5)) N u13 (((os.take k).map fun o => b8 (ld m o))) := Row.below (W := wr.drewN q) HR.out ((Below.refl _ _).alloc (Nat.le_refl _) _)
          clear hl3
          go_wp2_with (first | (at_builtin; refine wpList_append_bytes _ rfl _ _ rfl N _ _ rfl hr1 _ [y] rfl hm (by simp; unfold room; omega) (by have := HN.out; simp; omega) ?_))
          intro v4 w4' hr4 hg4
          rw [← List.map_take] at hr4
          have hK4 := HE.out q v4 w4' hr4 hg4
          have HK4 : Hid _ := hK4
          clear hK4 hr4 hg4 hr1 hm HE HR HN
          go_wp2
          go_roundw
          case rel =>
            first
              | exact ⟨k + 1, by omega, by go_num, HK4.out⟩
              | ((repeat apply Exists.intro); refine ⟨⟨k + 1, by omega, ?_, HK4.out⟩, rfl⟩; go_num)
          case measure => simp [intOf]; omega
        · obtain rfl : k = os.length := by omega
          have hE := hK.stored at_ x
          have hst := store_any b at_ at0 at1 x wr hK.has (by rw [hK.inv.tones]; decide)
          have hlw := fun z z0 z1 => ld_other m hK.has.wf at_ z x at0 z0 z1
          have hmm := K3.math hK at_ x at0 at1
          have HWF : Hid _ := hK.has.wf
          have HE : Hid _ := hE
          have HL : Hid _ := hlw
          have HM : Hid _ := hmm
          clear hK hE hlw hmm
          go_wp2_with fail
          refine hst.mono ?_
          rintro e w9 ⟨rfl, hD⟩
          have hK9 := HE.out w9 hD
          clear HE hD hst
          obtain ⟨hx1, hx2, hx3, hx4⟩ := HM.out
          generalize st m at_ x = m' at *
          have hlA := fun q => load_any b at_ at0 at1 (w9.drewN q) (hK9.has.drew q)
          have hlP := fun q => pad_any b (w9.drewN q) (hK9.has.drew q)
          have hlB := fun q => load_any b 65282 (by omega) (by omega) (w9.drewN q) (hK9.has.drew q)
          have hlC := fun q => load_any b 65288 (by omega) (by omega) (w9.drewN q) (hK9.has.drew q)
          rw [hx2] at hlP
          rw [hx3] at hlB
          rw [hx4] at hlC
          rw [ld_low m' at_ ha] at hlA
          clear hx1 hx2 hx3 hx4 HM
          have H9 : Hid _ := hK9
          clear hK9
          go_wp2_with fail
          refine (plain_any at_ w9).mono ?_
          rintro e w10 ⟨rfl, h10⟩
          obtain rfl := h10.symm
          go_wp2_with fail
          refine (hlA 0).mono ?_
          rintro e w11 ⟨rfl, q0, rfl⟩
          go_wp2_with fail
          refine (hlP _).mono ?_
          rintro e w11 ⟨rfl, qhlP, rfl⟩
          go_wp2_with fail
          refine (hlB _).mono ?_
          rintro e w11 ⟨rfl, qhlB, rfl⟩
          go_wp2_with fail
          refine (hlC _).mono ?_
          rintro e w11 ⟨rfl, qhlC, rfl⟩
          clear hlP hlB hlC hlA
          go_wp2
          go_loopw [139] (fun i wr => ∃ k : Nat, k ≤ os.length ∧ i = .int .i64 (k : Int) ∧ As w9 wr) (fun i _ => os.length - (intOf i).toNat)
          case atStart => exact ⟨0, by omega, rfl, _, rfl⟩
          case round =>
            obtain ⟨k, hk, rfl, has9⟩ := hrel
            by_cases hlt : k < os.length
            · have i1 : (k : Int) < os.length := by omega
              obtain ⟨ob, oo2, rfl, c1, z0, z1⟩ := hos.below H9.out.bel k os[k] (List.getElem?_eq_getElem hlt)
              have hrw := H9.out.row
              have hL9 := HL.out os[k] z0
              have hlz := fun n => load_any b os[k] z0 z1 (wr.drewN n) ((has9.has H9.out.has).drew n)
              obtain ⟨g, cap, hu13⟩ := own_pos hrw (by simp; omega)
              rw [List.length_map] at hu13
              subst hu13
              have hcl : w9.cell? ⟨g, k, none⟩ = some (.int .u8 (ld m os[k])) := row_at hrw HWF.out k os[k] (List.getElem?_eq_getElem hlt)
              have c2 : wr.cell? ⟨g, k, none⟩ = some (.int .u8 (ld m os[k])) := has9.cell hcl
              have c3 : wr.cell? ⟨ob, oo2 + k, none⟩ = some (.int .u16 os[k]) := has9.cell c1
              generalize os[k] = z at *
              have HA9 : Hid _ := has9
              clear c1 hcl hrw has9
              by_cases k1 : z = at_
              · have f1 : (z == at_) = true := by simpa using k1
                clear hL9 hlz k1
                go_wp2
                go_roundw
                case rel =>
                  first
                    | exact ⟨k + 1, by omega, by go_num, HA9.out⟩
                    | exact ⟨k + 1, by omega, by go_num, As.drew HA9.out _⟩
                    | ((repeat apply Exists.intro); refine ⟨⟨k + 1, by omega, ?_, HA9.out⟩, rfl⟩; go_num)
                    | ((repeat apply Exists.intro); refine ⟨⟨k + 1, by omega, ?_, As.drew HA9.out _⟩, rfl⟩; go_num)
                case measure => simp [intOf]; omega
              have f1 : (z == at_) = false := by simpa using k1
              by_cases k5 : 65280 ≤ z
              · have f5 : decide (65280 ≤ z) = true := by simpa using k5
                have f3 : decide (z < 32768) = false := by simp; omega
                have f6 : decide (16384 ≤ z) = true := by simp; omega
                have f2 : (at_ == 65280) = false := by simp; omega
                clear hL9 hlz
                go_wp2
                go_roundw
                case rel =>
                  first
                    | exact ⟨k + 1, by omega, by go_num, HA9.out⟩
                    | exact ⟨k + 1, by omega, by go_num, As.drew HA9.out _⟩
                    | ((repeat apply Exists.intro); refine ⟨⟨k + 1, by omega, ?_, HA9.out⟩, rfl⟩; go_num)
                    | ((repeat apply Exists.intro); refine ⟨⟨k + 1, by omega, ?_, As.drew HA9.out _⟩, rfl⟩; go_num)
                case measure => simp [intOf]; omega
              have f5 : decide (65280 ≤ z) = false := by simpa using k5
              have f2 : (at_ == 65280) = false := by simp; omega
              rw [hL9 (by omega) k1 (by omega)] at hlz
              generalize ld m z = y9 at *
              clear hL9
              go_wp2_with fail
              go_quiet ((go_at_call 15; exact Calls.quiet_of (hlz _)))
              go_wp2
              go_roundw
              case rel =>
                first
                  | exact ⟨k + 1, by omega, by go_num, HA9.out⟩
                  | exact ⟨k + 1, by omega, by go_num, As.drew HA9.out _⟩
                  | ((repeat apply Exists.intro); refine ⟨⟨k + 1, by omega, ?_, HA9.out⟩, rfl⟩; go_num)
                  | ((repeat apply Exists.intro); refine ⟨⟨k + 1, by omega, ?_, As.drew HA9.out _⟩, rfl⟩; go_num)
              case measure => simp [intOf]; omega
            · obtain rfl : k = os.length := by omega
              go_wp2
              go_ret
              exact ⟨rfl, has9.below H9.out.bel⟩
theorem keeps_b0 (p : Option Addr) (c : Nat) (bs : List (Int × List UInt8)) (hl : bs.length * 32 ≤ room) (hd : ∀ t ∈ bs, t.2.length + 1 ≤ room) (at_ : Int) (at0 : 0 ≤ at_) (at1 : at_ < 65536) (x : UInt8) (po : Option Addr) (co : Nat) (os : List Int) (ho : os.length * 2 ≤ room) (w : World) (h : BnS w p bs) (hos : OsS w po os) (hm : mayB (-1) bs = true)
    (hbs : Hid (bs = [])) (ha : 16384 ≤ at_) (ha2 : at_ < 32768) :
    Calls Try.prog 3 #[.slice p bs.length c, .agg #[.int .u16 at_, .int .u8 (bt x)], .slice po os.length co] w fun e w' => e = .returned (.bool true) ∧ Below w.heap.size w w' := by
  have hb0 : Below w.heap.size w (w.alloc (.cells #[.int .u16 at_, .int .u8 (bt x)] 25)).drew := ((Below.refl _ w).alloc (Nat.le_refl _) _).drew
  have how := ownBanks_any p c bs hl hd (w.alloc (.cells #[.int .u16 at_, .int .u8 (bt x)] 25)).drew (h.below hb0)
  have hl1 : bs.length ≤ room := by omega
  unfold room at ho
  have dc0 : decide (16384 ≤ at_) = true := by simp; omega
  have dc1 : decide (at_ < 52224) = true := by simp; omega
  have dc2 : decide (32768 ≤ at_) = false := by simp; omega
  have dc3 : decide (at_ < 16384) = false := by simp; omega
  go_enter Try.func3, Try.ntmps3
  go_wp2_with fail
  go_region
  go_wp2_with fail
  refine how.mono ?_
  rintro e w2 ⟨u, gs, rfl, hO, hb⟩
  obtain ⟨p2, c2, rfl, hn2⟩ := hO.ex (fun t ht => by have := hd t ht; omega)
  have hb2 : Below w.heap.size w w2 := hb0.trans (hb.mono hb0.size)
  have hnw := newN p2 c2 bs hl1 w2 hn2 hm
  clear how hb hO
  go_wp2_with fail
  refine hnw.mono ?_
  rintro e w3 ⟨b, rfl, hM, hb⟩
  replace hM : HasM w3 (fun k => w.heap.size ≤ k) b (mN bs) := hM.mono fun i _ hi => Nat.le_trans hb2.size hi
  replace hb2 := hb2.trans (hb.mono hb2.size)
  clear hnw hb
  have haw := awake_any w3
  go_wp2_with fail
  refine haw.mono ?_
  rintro e w4 ⟨rfl, hb⟩
  replace hM := hM.below hb
  replace hb2 := hb2.trans (hb.mono hb2.size)
  clear haw hb hb0 hn2 w2
  have hM2 := hM
  have htm : (mN bs : MS).time = 0 := rfl
  generalize (mN bs : MS) = m2 at hM2 htm
  have hI : Inv False (bg m2 77) := ⟨rfl, rfl, by simp [bg, htm], fun f => f.elim⟩
  have hlen : decide ((0 : Int) < (bs.length : Int)) = false := by rw [hbs.out]; rfl
  have hlen2 : decide (0 < bs.length) = false := by rw [hbs.out]; rfl
  clear hM htm hbs hm hl hl1
  obtain ⟨w5, hw5⟩ : ∃ w5, w5 = w4 := ⟨_, rfl⟩
  rw [← hw5] at hM2 hb2
  obtain rfl := hw5
  have hbg := begin_any b 77 w5 hM2
  rw [show bt 77 = 77 from rfl] at hbg
  go_wp2_with fail
  refine hbg.mono ?_
  rintro e w6 ⟨rfl, hD⟩
  have hK : KS w w6 b False (bg m2 77) := by
    obtain ⟨hM3, hb⟩ := hD.below hb2.size
    exact ⟨hM3, hb2.trans hb, hI⟩
  generalize bg m2 77 = m3 at hK
  clear hbg hD hI hM2 hb2 h hd
  have H6 : Hid _ := hK
  clear hK
  go_wp2
  go_loopw [62] (fun i wr => ∃ (k : Nat) (m : MS), k ≤ os.length ∧ i = .int .i64 (k : Int) ∧ KS w wr b False m) (fun i _ => os.length - (intOf i).toNat)
  case atStart => exact ⟨0, m3, by omega, rfl, H6.out⟩
  case round =>
    clear H6
    obtain ⟨k, m, hk, rfl, hK⟩ := hrel
    by_cases hlt : k < os.length
    · have i1 : (k : Int) < os.length := by omega
      obtain ⟨ob, oo2, rfl, c1, z0, z1⟩ := hos.below hK.bel k os[k] (List.getElem?_eq_getElem hlt)
      generalize os[k] = z at *
      have HK : Hid _ := hK
      clear hK
      go_wp2_with fail
      refine (plain_any z wr).mono ?_
      rintro e w7 ⟨rfl, h7⟩
      obtain rfl := h7.symm
      by_cases q1 : 16384 ≤ z
      · by_cases q2 : z < 52224
        · have g1 : decide (16384 ≤ z) = true := by simpa using q1
          have g2 : decide (z < 52224) = true := by simpa using q2
          have hst := store_any b z z0 z1 (b8 ((k : Int) + 1)) wr HK.out.has (by rw [HK.out.inv.tones]; decide)
          have e8 : IntKind.u8.wrap ((k : Int) + 1) = bt (b8 ((k : Int) + 1)) := by rw [u8_wrap, bt_b8]
          go_wp2_with fail
          refine hst.mono ?_
          rintro e w8 ⟨rfl, hD⟩
          have hK2 : KS w w8 b False (st m z (b8 ((k : Int) + 1))) := by
            obtain ⟨hM3, hb⟩ := hD.below HK.out.bel.size
            exact ⟨hM3, HK.out.bel.trans hb, HK.out.inv.st z _ (by omega)⟩
          have HK2 : Hid _ := hK2
          clear hK2 hD hst HK e8
          go_wp2
          go_roundw
          case rel =>
            first
              | exact ⟨k + 1, _, by omega, by go_num, HK2.out⟩
              | ((repeat apply Exists.intro); refine ⟨⟨k + 1, _, by omega, ?_, HK2.out⟩, rfl⟩; go_num)
          case measure => simp [intOf]; omega
        · have g1 : decide (16384 ≤ z) = true := by simpa using q1
          have g2 : decide (z < 52224) = false := by simpa using q2
          go_wp2
          go_roundw
          case rel =>
            first
              | exact ⟨k + 1, _, by omega, by go_num, HK.out⟩
              | ((repeat apply Exists.intro); refine ⟨⟨k + 1, _, by omega, ?_, HK.out⟩, rfl⟩; go_num)
          case measure => simp [intOf]; omega
      · have g1 : decide (16384 ≤ z) = false := by simpa using q1
        go_wp2
        go_roundw
        case rel =>
          first
            | exact ⟨k + 1, _, by omega, by go_num, HK.out⟩
            | ((repeat apply Exists.intro); refine ⟨⟨k + 1, _, by omega, ?_, HK.out⟩, rfl⟩; go_num)
        case measure => simp [intOf]; omega
    · obtain rfl : k = os.length := by omega
      have hos2 := hos.below hK.bel
      have h2 : K2 w wr.heap.size wr b False m os (.slice none 0 0) 0 := K2.start hK os
      generalize wr.heap.size = N at h2
      have H2 : Hid _ := h2
      clear hK h2 hos2
      go_wp2
      go_loopw [13, 78] (fun v i wr => ∃ k : Nat, k ≤ os.length ∧ i = .int .i64 (k : Int) ∧ K2 w N wr b False m os v k) (fun _ i _ => os.length - (intOf i).toNat)
      case atStart => exact ⟨0, by omega, rfl, H2.out⟩
      case round =>
        clear H2
        obtain ⟨k, hk, rfl, hK⟩ := hrel
        by_cases hlt : k < os.length
        · have i1 : (k : Int) < os.length := by omega
          obtain ⟨ob, oo2, rfl, c1, z0, z1⟩ := hos.below hK.bel k os[k] (List.getElem?_eq_getElem hlt)
          have hE := hK.next hlt
          have hl3 := load_any b os[k] z0 z1 wr hK.has
          have hlb := (ld_bound m hK.has.wf os[k])
          have e8 : ld m os[k] = bt (b8 (ld m os[k])) := by rw [bt_b8]; omega
          generalize hy : b8 (ld m os[k]) = y at *
          rw [e8] at hl3
          generalize os[k] = z at *
          have HE : Hid _ := hE
          have HR : Hid _ := hK.row
          have HN : Hid _ := hK.size
          clear hK hE hlb e8 hy
          go_wp2_with fail
          refine hl3.mono ?_
          rintro e w7 ⟨rfl, q, rfl⟩
          have hm := (row_of_alloc (wr.drewN q) N (show N ≤ (wr.drewN q).heap.size from HN.out) [y] (by simp [maxLen])).sl
          have hr1 : Row ((wr.drewN q).alloc (.cells (bv [y]).toArray 5)) N u13 (((os.take k).map fun o => b8 (ld m o))) := Row.below (W := wr.drewN q) HR.out ((Below.refl _ _).alloc (Nat.le_refl _) _)
          clear hl3
          go_wp2_with (first | (at_builtin; refine wpList_append_bytes _ rfl _ _ rfl N _ _ rfl hr1 _ [y] rfl hm (by simp; unfold room; omega) (by have := HN.out; simp; omega) ?_))
          intro v4 w4' hr4 hg4
          rw [← List.map_take] at hr4
          have hK4 := HE.out q v4 w4' hr4 hg4
          have HK4 : Hid _ := hK4
          clear hK4 hr4 hg4 hr1 hm HE HR HN
          go_wp2
          go_roundw
          case rel =>
            first
              | exact ⟨k + 1, by omega, by go_num, HK4.out⟩
              | ((repeat apply Exists.intro); refine ⟨⟨k + 1, by omega, ?_, HK4.out⟩, rfl⟩; go_num)
          case measure => simp [intOf]; omega
        · obtain rfl : k = os.length := by omega
          have hE := hK.stored at_ x
          have hst := store_any b at_ at0 at1 x wr hK.has (by rw [hK.inv.tones]; decide)
          have hlw := fun z z0 z1 => ld_other m hK.has.wf at_ z x at0 z0 z1
          have hmm := K3.math hK at_ x at0 at1
          have HWF : Hid _ := hK.has.wf
          have HE : Hid _ := hE
          have HL : Hid _ := hlw
          have HM : Hid _ := hmm
          clear hK hE hlw hmm
          go_wp2_with fail
          refine hst.mono ?_
          rintro e w9 ⟨rfl, hD⟩
          have hK9 := HE.out w9 hD
          clear HE hD hst
          obtain ⟨hx1, hx2, hx3, hx4⟩ := HM.out
          generalize st m at_ x = m' at *
          have hlA := fun q => load_any b at_ at0 at1 (w9.drewN q) (hK9.has.drew q)
          have hlP := fun q => pad_any b (w9.drewN q) (hK9.has.drew q)
          have hlB := fun q => load_any b 65282 (by omega) (by omega) (w9.drewN q) (hK9.has.drew q)
          have hlC := fun q => load_any b 65288 (by omega) (by omega) (w9.drewN q) (hK9.has.drew q)
          rw [hx2] at hlP
          rw [hx3] at hlB
          rw [hx4] at hlC
          generalize ld m' at_ = y0 at hlA
          clear hx1 hx2 hx3 hx4 HM
          have H9 : Hid _ := hK9
          clear hK9
          by_cases hz : y0 = 0
          · have hz1 : (y0 != 0) = false := by simpa using hz
            clear hz
            go_wp2_with fail
            refine (plain_any at_ w9).mono ?_
            rintro e w10 ⟨rfl, h10⟩
            obtain rfl := h10.symm
            go_wp2_with fail
            refine (hlA 0).mono ?_
            rintro e w11 ⟨rfl, q0, rfl⟩
            go_wp2_with fail
            refine (hlP _).mono ?_
            rintro e w11 ⟨rfl, qhlP, rfl⟩
            go_wp2_with fail
            refine (hlB _).mono ?_
            rintro e w11 ⟨rfl, qhlB, rfl⟩
            go_wp2_with fail
            refine (hlC _).mono ?_
            rintro e w11 ⟨rfl, qhlC, rfl⟩
            clear hlP hlB hlC hlA
            go_wp2
            go_loopw [139] (fun i wr => ∃ k : Nat, k ≤ os.length ∧ i = .int .i64 (k : Int) ∧ As w9 wr) (fun i _ => os.length - (intOf i).toNat)
            case atStart => exact ⟨0, by omega, rfl, _, rfl⟩
            case round =>
              obtain ⟨k, hk, rfl, has9⟩ := hrel
              by_cases hlt : k < os.length
              · have i1 : (k : Int) < os.length := by omega
                obtain ⟨ob, oo2, rfl, c1, z0, z1⟩ := hos.below H9.out.bel k os[k] (List.getElem?_eq_getElem hlt)
                have hrw := H9.out.row
                have hL9 := HL.out os[k] z0
                have hlz := fun n => load_any b os[k] z0 z1 (wr.drewN n) ((has9.has H9.out.has).drew n)
                obtain ⟨g, cap, hu13⟩ := own_pos hrw (by simp; omega)
                rw [List.length_map] at hu13
                subst hu13
                have hcl : w9.cell? ⟨g, k, none⟩ = some (.int .u8 (ld m os[k])) := row_at hrw HWF.out k os[k] (List.getElem?_eq_getElem hlt)
                have c2 : wr.cell? ⟨g, k, none⟩ = some (.int .u8 (ld m os[k])) := has9.cell hcl
                have c3 : wr.cell? ⟨ob, oo2 + k, none⟩ = some (.int .u16 os[k]) := has9.cell c1
                generalize os[k] = z at *
                have HA9 : Hid _ := has9
                clear c1 hcl hrw has9
                by_cases k1 : z = at_
                · have f1 : (z == at_) = true := by simpa using k1
                  clear hL9 hlz k1
                  go_wp2
                  go_roundw
                  case rel =>
                    first
                      | exact ⟨k + 1, by omega, by go_num, HA9.out⟩
                      | exact ⟨k + 1, by omega, by go_num, As.drew HA9.out _⟩
                      | ((repeat apply Exists.intro); refine ⟨⟨k + 1, by omega, ?_, HA9.out⟩, rfl⟩; go_num)
                      | ((repeat apply Exists.intro); refine ⟨⟨k + 1, by omega, ?_, As.drew HA9.out _⟩, rfl⟩; go_num)
                  case measure => simp [intOf]; omega
                have f1 : (z == at_) = false := by simpa using k1
                by_cases k5 : 65280 ≤ z
                · have f5 : decide (65280 ≤ z) = true := by simpa using k5
                  have f3 : decide (z < 32768) = false := by simp; omega
                  have f6 : decide (16384 ≤ z) = true := by simp; omega
                  have f2 : (at_ == 65280) = false := by simp; omega
                  clear hL9 hlz
                  go_wp2
                  go_roundw
                  case rel =>
                    first
                      | exact ⟨k + 1, by omega, by go_num, HA9.out⟩
                      | exact ⟨k + 1, by omega, by go_num, As.drew HA9.out _⟩
                      | ((repeat apply Exists.intro); refine ⟨⟨k + 1, by omega, ?_, HA9.out⟩, rfl⟩; go_num)
                      | ((repeat apply Exists.intro); refine ⟨⟨k + 1, by omega, ?_, As.drew HA9.out _⟩, rfl⟩; go_num)
                  case measure => simp [intOf]; omega
                have f5 : decide (65280 ≤ z) = false := by simpa using k5
                have f2 : (at_ == 65280) = false := by simp; omega
                rw [hL9 (by omega) k1 (by omega)] at hlz
                generalize ld m z = y9 at *
                clear hL9
                go_wp2_with fail
                go_quiet ((go_at_call 15; exact Calls.quiet_of (hlz _)))
                go_wp2
                go_roundw
                case rel =>
                  first
                    | exact ⟨k + 1, by omega, by go_num, HA9.out⟩
                    | exact ⟨k + 1, by omega, by go_num, As.drew HA9.out _⟩
                    | ((repeat apply Exists.intro); refine ⟨⟨k + 1, by omega, ?_, HA9.out⟩, rfl⟩; go_num)
                    | ((repeat apply Exists.intro); refine ⟨⟨k + 1, by omega, ?_, As.drew HA9.out _⟩, rfl⟩; go_num)
                case measure => simp [intOf]; omega
              · obtain rfl : k = os.length := by omega
                go_wp2
                go_ret
                exact ⟨rfl, has9.below H9.out.bel⟩
          · have hz1 : (y0 != 0) = true := by simpa using hz
            clear hz
            go_wp2_with fail
            refine (plain_any at_ w9).mono ?_
            rintro e w10 ⟨rfl, h10⟩
            obtain rfl := h10.symm
            go_wp2_with fail
            refine (hlA 0).mono ?_
            rintro e w11 ⟨rfl, q0, rfl⟩
            go_wp2_with fail
            refine (hlP _).mono ?_
            rintro e w11 ⟨rfl, qhlP, rfl⟩
            go_wp2_with fail
            refine (hlB _).mono ?_
            rintro e w11 ⟨rfl, qhlB, rfl⟩
            go_wp2_with fail
            refine (hlC _).mono ?_
            rintro e w11 ⟨rfl, qhlC, rfl⟩
            clear hlP hlB hlC hlA
            go_wp2
            go_loopw [139] (fun i wr => ∃ k : Nat, k ≤ os.length ∧ i = .int .i64 (k : Int) ∧ As w9 wr) (fun i _ => os.length - (intOf i).toNat)
            case atStart => exact ⟨0, by omega, rfl, _, rfl⟩
            case round =>
              obtain ⟨k, hk, rfl, has9⟩ := hrel
              by_cases hlt : k < os.length
              · have i1 : (k : Int) < os.length := by omega
                obtain ⟨ob, oo2, rfl, c1, z0, z1⟩ := hos.below H9.out.bel k os[k] (List.getElem?_eq_getElem hlt)
                have hrw := H9.out.row
                have hL9 := HL.out os[k] z0
                have hlz := fun n => load_any b os[k] z0 z1 (wr.drewN n) ((has9.has H9.out.has).drew n)
                obtain ⟨g, cap, hu13⟩ := own_pos hrw (by simp; omega)
                rw [List.length_map] at hu13
                subst hu13
                have hcl : w9.cell? ⟨g, k, none⟩ = some (.int .u8 (ld m os[k])) := row_at hrw HWF.out k os[k] (List.getElem?_eq_getElem hlt)
                have c2 : wr.cell? ⟨g, k, none⟩ = some (.int .u8 (ld m os[k])) := has9.cell hcl
                have c3 : wr.cell? ⟨ob, oo2 + k, none⟩ = some (.int .u16 os[k]) := has9.cell c1
                generalize os[k] = z at *
                have HA9 : Hid _ := has9
                clear c1 hcl hrw has9
                by_cases k1 : z = at_
                · have f1 : (z == at_) = true := by simpa using k1
                  clear hL9 hlz k1
                  go_wp2
                  go_roundw
                  case rel =>
                    first
                      | exact ⟨k + 1, by omega, by go_num, HA9.out⟩
                      | exact ⟨k + 1, by omega, by go_num, As.drew HA9.out _⟩
                      | ((repeat apply Exists.intro); refine ⟨⟨k + 1, by omega, ?_, HA9.out⟩, rfl⟩; go_num)
                      | ((repeat apply Exists.intro); refine ⟨⟨k + 1, by omega, ?_, As.drew HA9.out _⟩, rfl⟩; go_num)
                  case measure => simp [intOf]; omega
                have f1 : (z == at_) = false := by simpa using k1
                by_cases k5 : 65280 ≤ z
                · have f5 : decide (65280 ≤ z) = true := by simpa using k5
                  have f3 : decide (z < 32768) = false := by simp; omega
                  have f6 : decide (16384 ≤ z) = true := by simp; omega
                  have f2 : (at_ == 65280) = false := by simp; omega
                  clear hL9 hlz
                  go_wp2
                  go_roundw
                  case rel =>
                    first
                      | exact ⟨k + 1, by omega, by go_num, HA9.out⟩
                      | exact ⟨k + 1, by omega, by go_num, As.drew HA9.out _⟩
                      | ((repeat apply Exists.intro); refine ⟨⟨k + 1, by omega, ?_, HA9.out⟩, rfl⟩; go_num)
                      | ((repeat apply Exists.intro); refine ⟨⟨k + 1, by omega, ?_, As.drew HA9.out _⟩, rfl⟩; go_num)
                  case measure => simp [intOf]; omega
                have f5 : decide (65280 ≤ z) = false := by simpa using k5
                have f2 : (at_ == 65280) = false := by simp; omega
                rw [hL9 (by omega) k1 (by omega)] at hlz
                generalize ld m z = y9 at *
                clear hL9
                go_wp2_with fail
                go_quiet ((go_at_call 15; exact Calls.quiet_of (hlz _)))
                go_wp2
                go_roundw
                case rel =>
                  first
                    | exact ⟨k + 1, by omega, by go_num, HA9.out⟩
                    | exact ⟨k + 1, by omega, by go_num, As.drew HA9.out _⟩
                    | ((repeat apply Exists.intro); refine ⟨⟨k + 1, by omega, ?_, HA9.out⟩, rfl⟩; go_num)
                    | ((repeat apply Exists.intro); refine ⟨⟨k + 1, by omega, ?_, As.drew HA9.out _⟩, rfl⟩; go_num)
                case measure => simp [intOf]; omega
              · obtain rfl : k = os.length := by omega
                go_wp2
                go_ret
                exact ⟨rfl, has9.below H9.out.bel⟩
end Go.Proofs.Ytcmaccefjlgbfaa
