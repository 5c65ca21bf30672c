import Derived.Test.YthphmeckcmhijaaDoorKnown
/-! PackTurned's walk. -/
namespace Go.Proofs.YthphmeckcmhijaaDoor
open Go.RowKit
set_option linter.unusedVariables false

theorem parts_one (W : World) (v : Value) (l : List UInt8) (hl : l.length ≤ room) (h : Sl W v l) : Parts (W.alloc (.cells #[v] 22)) (some ⟨W.heap.size, 0, none⟩) [l] ∧ Below W.heap.size W (W.alloc (.cells #[v] 22)) := by
  have hb : Below W.heap.size W (W.alloc (.cells #[v] 22)) := (Below.refl _ _).alloc (Nat.le_refl _) _
  refine ⟨fun i m hi => ?_, hb⟩
  match i, hi with
  | 0, hi =>
    simp at hi; subst hi
    obtain ⟨p, c, rfl, hbs⟩ := (h.below hb).ex
    have hc := cell_of_any _ _ 0 _ _ _ (heap_alloc_any W (.cells #[.slice p l.length c] 22))
    exact ⟨_, p, c, rfl, by simp only [Addr.add, if_pos]; exact hc, hbs, by unfold maxLen; unfold room at hl; omega⟩
  | n + 1, hi => simp at hi
theorem pow_xor (n a i : Nat) : 2 ^ n * (a ^^^ 2 ^ i) = (2 ^ n * a) ^^^ 2 ^ (n + i) := by
  have h := Nat.shiftLeft_xor_distrib (a := a) (b := 2 ^ i) (i := n)
  simp only [Nat.shiftLeft_eq] at h
  rw [Nat.mul_comm, h, Nat.mul_comm a, ← Nat.pow_add, Nat.add_comm i n]
theorem ieq {a b : Int} (h : a = b) : (a == b) = true := by simp [h]
theorem ine {a b : Int} (h : a ≠ b) : (a == b) = false := by simp [h]
/-- The pattern behind i bits, where m bits have room. -/
def pat (x i m : Nat) : Nat := x % 2 ^ (min i m)
theorem pat_zero (x m : Nat) : pat x 0 m = 0 := by simp [pat, Nat.mod_one]
theorem pat_full (x i m : Nat) (h : m ≤ i) : pat x (i + 1) m = pat x i m := by unfold pat; rw [Nat.min_eq_right h, Nat.min_eq_right (by omega)]
theorem pat_lt (x i m : Nat) (hi : i ≤ 32) : pat x i m < 2 ^ 32 := by
  unfold pat
  have h1 := Nat.mod_lt x (Nat.two_pow_pos (min i m))
  have h2 : 2 ^ (min i m) ≤ 2 ^ 32 := Nat.pow_le_pow_right (by decide) (by omega)
  omega
theorem pat_no (x i m : Nat) (h : i < m) (hb : x / 2 ^ i % 2 = 0) : pat x (i + 1) m = pat x i m := by
  unfold pat
  rw [Nat.min_eq_left (by omega), Nat.min_eq_left (by omega), Nat.mod_pow_succ, hb]; simp
theorem pat_yes (x i m : Nat) (h : i < m) (hb : x / 2 ^ i % 2 = 1) : pat x (i + 1) m = pat x i m ^^^ 2 ^ i ∧ pat x (i + 1) m ≠ 0 := by
  unfold pat
  rw [Nat.min_eq_left (by omega), Nat.min_eq_left (by omega), Nat.mod_pow_succ, hb]
  have h1 := Nat.mod_lt x (Nat.two_pow_pos i)
  have h2 := add_xor i 1 (x % 2 ^ i) h1
  have h3 := Nat.two_pow_pos i
  refine ⟨?_, by omega⟩
  rw [Nat.mul_one] at h2 ⊢
  rw [Nat.add_comm, h2, Nat.xor_comm]

theorem place (a : Int) (L : Nat) (h0 : 0 < L) (hL : L ≤ 140737488355328) : ∃ N : Nat, N < 8 * L ∧ (wrap64 (a.tmod (8 * (L : Int)) + 8 * (L : Int))).tmod (8 * (L : Int)) = (N : Int) := by
  have h1 := Int.tmod_lt_of_pos a (b := 8 * (L : Int)) (by omega)
  have h2 : -(8 * (L : Int)) < a.tmod (8 * (L : Int)) := by
    have := Int.lt_tmod_of_pos a (b := 8 * (L : Int)) (by omega)
    exact this
  generalize a.tmod (8 * (L : Int)) = r at *
  have h3 : wrap64 (r + 8 * (L : Int)) = r + 8 * (L : Int) := by unfold wrap64; omega
  rw [h3, Int.tmod_eq_emod_of_nonneg (by omega)]
  have h4 := Int.emod_nonneg (r + 8 * (L : Int)) (b := 8 * (L : Int)) (by omega)
  have h5 := Int.emod_lt_of_pos (r + 8 * (L : Int)) (b := 8 * (L : Int)) (by omega)
  exact ⟨((r + 8 * (L : Int)) % (8 * (L : Int))).toNat, by omega, by omega⟩
theorem shr_and (x i : Nat) (hx : x < 4294967296) : bits .and .u32 ((x : Int) / 2 ^ i) 1 = ((x / 2 ^ i % 2 : Nat) : Int) := by
  have h := and32 (x / 2 ^ i) 1 (by have := Nat.div_le_self x (2 ^ i); omega) (by decide)
  simpa using h

theorem pow8 (k : Nat) : 2 ^ (k % 8) < 256 := by
  have : 2 ^ (k % 8) ≤ 2 ^ 7 := Nat.pow_le_pow_right (by decide) (by omega)
  omega
theorem xor8p (b K : Nat) (hb : b < 256) : bits .xor .u8 (b : Int) ((2 : Int) ^ (K % 8) % 256) = ((b ^^^ 2 ^ (K % 8) : Nat) : Int) := by
  have h1 := pow8 K
  have h2 : (2 : Int) ^ (K % 8) = ((2 ^ (K % 8) : Nat) : Int) := by simp
  have h3 := xor8 b (2 ^ (K % 8)) hb h1
  have h4 : ((2 ^ (K % 8) : Nat) : Int) < 256 := Int.ofNat_lt.2 h1
  rw [h2, Int.emod_eq_of_lt (Int.natCast_nonneg _) h4, h3]
theorem row_fz {W : World} {B g n cap : Nat} {l : List UInt8} (h : Row W B (.slice (some ⟨g, 0, none⟩) n cap) l) (j : Nat) : W.frozen? ⟨g, j, none⟩ = false := by
  rcases h.2 with ⟨e, _⟩ | ⟨g', cap', cur, e, _, hg, _⟩
  · cases e
  · simp only [Value.slice.injEq, Option.some.injEq, Addr.mk.injEq] at e
    obtain ⟨⟨rfl, _⟩, _⟩ := e
    exact frozen_of_row W g j _ _ hg
theorem row_store {W : World} {B g n cap : Nat} {l : List UInt8} (h : Row W B (.slice (some ⟨g, 0, none⟩) n cap) l) (j : Nat) (hj : j < l.length) (b : UInt8) : Row (W.setCell ⟨g, j, none⟩ (.int .u8 (b.toNat : Int))) B (.slice (some ⟨g, 0, none⟩) n cap) (l.set j b) := by
  refine ⟨by simp [bv], ?_⟩
  rcases h.2 with ⟨e, _⟩ | ⟨g', cap', cur, e, hB, hg, h1, h2, h3, h4⟩
  · cases e
  · simp only [Value.slice.injEq, Option.some.injEq, Addr.mk.injEq] at e
    obtain ⟨⟨rfl, _⟩, rfl, rfl⟩ := e
    refine .inr ⟨g, cap, cur.setIfInBounds j (.int .u8 (b.toNat : Int)), by simp, hB, heap_setCell_same W g j _ _ _ hg, by simpa using h1, h2, by simpa using h3, ?_⟩
    rw [Array.toList_setIfInBounds, List.length_set, List.take_set, h4]
    simp [bv, List.map_set]

set_option maxHeartbeats 2000000 in
set_option maxRecDepth 100000 in
theorem turned_walk (v : Value) (l : List UInt8) (hl : l.length + 4096 ≤ room) (a : Int) (ha : (Lit.int .i64 a).wf = true) (x : Nat) (hx : x < 4294967296) (w : World) (h : Sl w v l) (hT : Tab w) :
    Calls Tryd.prog 3 #[v, .int .i64 a, .int .u32 (x : Int)] w fun r w' => r = .returned (.bool true) ∧ Below w.heap.size w w' := by
  have hk := fun W hW => known_any W hW
  obtain ⟨p, c, rfl, _⟩ := h.ex
  unfold room at hl
  by_cases h0 : l.length = 0
  · have j1 : ((l.length : Int) == 0) = true := ieq (by omega)
    go_enter Tryd.func3, Tryd.ntmps3
    go_wp2_with fail
    refine (hk w hT).mono ?_
    rintro r w' ⟨rfl, h1⟩
    go_wp2
    go_ret
    exact ⟨rfl, h1⟩
  · have j1 : ((l.length : Int) == 0) = false := ine (by omega)
    by_cases hx0 : x = 0
    · have j2 : ((x : Int) == 0) = true := ieq (by omega)
      go_enter Tryd.func3, Tryd.ntmps3
      go_wp2_with fail
      refine (hk w hT).mono ?_
      rintro r w' ⟨rfl, h1⟩
      go_wp2
      go_ret
      exact ⟨rfl, h1⟩
    · have j2 : ((x : Int) == 0) = false := ine (by omega)
      have hr0 : Row (w.alloc (.cells #[] 5)) w.heap.size (.slice (some ⟨w.heap.size, 0, none⟩) 0 0) [] := row_of_alloc w w.heap.size (Nat.le_refl _) [] (by simp)
      have hb0 : Below w.heap.size w (w.alloc (.cells #[] 5)) := (Below.refl _ _).alloc (Nat.le_refl _) _
      have hs0 := h.below hb0
      go_enter Tryd.func3, Tryd.ntmps3
      go_wp2_with (first | (at_builtin; refine wpList_append_bytes _ rfl _ _ rfl w.heap.size _ [] rfl hr0 _ l rfl hs0 (by unfold room; simp; omega) hb0.size ?_))
      intro vc w1 hr hg
      have hb1 : Below w.heap.size w w1 := hg.belowAll (fun g e => (hr0.lt g e).1) hb0 (Nat.le_refl _)
      obtain ⟨g, cap, rfl⟩ := own_pos hr (by omega)
      clear hg hr0 hs0 hb0
      have q0 : ((8 : Int) * (l.length : Int) == 0) = false := ine (by omega)
      obtain ⟨N, hN, eN⟩ := place a l.length (by omega) (by omega)
      go_wp2
      generalize a.tmod (8 * (l.length : Int)) = r1
      generalize wrap64 (r1 + 8 * (l.length : Int)) = r2
      clear eN hk
      go_loopw [9, 10] (fun t i wr => ∃ (k : Nat) (lc : List UInt8), k ≤ 32 ∧ i = .int .i64 (k : Int) ∧ t = .bool (decide (pat x k (8 * l.length - N) ≠ 0)) ∧ lc.length = l.length ∧ numL lc = numL l ^^^ (2 ^ N * pat x k (8 * l.length - N)) ∧ Below w.heap.size w wr ∧ Row wr w.heap.size (.slice (some ⟨g, 0, none⟩) l.length cap) lc) (fun _ i _ => 32 - (intOf i).toNat)
      case atStart => exact ⟨0, l, by omega, rfl, by rw [pat_zero]; rfl, rfl, by rw [pat_zero]; simp, hb1, hr⟩
      case round =>
        clear hb1 hr
        obtain ⟨k, lc, hk, rfl, rfl, hlc, hnum, hb1, hr⟩ := hrel
        by_cases hk32 : k < 32
        · have i1 : (k : Int) < 32 := by omega
          have i2 : (0 : Int) ≤ k := by omega
          by_cases hin : N + k < 8 * l.length
          · have i3 : (N : Int) + k < 8 * l.length := by omega
            have hsa := shr_and x k hx
            by_cases hbit : x / 2 ^ k % 2 = 1
            · rw [hbit] at hsa
              obtain ⟨hpy, hpy0⟩ := pat_yes x k (8 * l.length - N) (by omega) hbit
              obtain ⟨K, hK⟩ : ∃ K, K = N + k := ⟨_, rfl⟩
              have eK : (N : Int) + (k : Int) = (K : Int) := by omega
              have hKl : K / 8 < lc.length := by omega
              have hcell : wr.cell? ⟨g, K / 8, none⟩ = some (.int .u8 (lc[K / 8].toNat : Int)) := by
                obtain ⟨p, c, e, hbs⟩ := hr.sl.ex
                obtain ⟨y, hy, hcy⟩ := hbs.at (K / 8) (lc[K / 8]) (by simp)
                simp only [Value.slice.injEq] at e
                rw [← e.1] at hy
                cases hy
                rw [Addr.add_lit] at hcy
                simpa using hcy
              have hfz := row_fz hr (K / 8)
              have hx8 := xor8p (lc[K / 8].toNat) K (u8lt _)
              have hst := row_store hr (K / 8) hKl (UInt8.ofNat (lc[K / 8].toNat ^^^ 2 ^ (K % 8)))
              have hub : (UInt8.ofNat (lc[K / 8].toNat ^^^ 2 ^ (K % 8))).toNat = lc[K / 8].toNat ^^^ 2 ^ (K % 8) := by
                have : lc[K / 8].toNat ^^^ 2 ^ (K % 8) < 2 ^ 8 := Nat.xor_lt_two_pow (u8lt _) (pow8 _)
                rw [show UInt8.ofNat (lc[K / 8].toNat ^^^ 2 ^ (K % 8)) = by8 (lc[K / 8].toNat ^^^ 2 ^ (K % 8)) from rfl, by8_nat]; omega
              have hfl := numL_flip lc K (lc[K / 8]) (UInt8.ofNat (lc[K / 8].toNat ^^^ 2 ^ (K % 8))) (by simp) hub
              rw [hub] at hst
              have hgw : w.heap.size ≤ g := (hr.lt g rfl).1
              have hbst := hb1.setCell (p := ⟨g, K / 8, none⟩) hgw (.int .u8 ((lc[K / 8].toNat ^^^ 2 ^ (K % 8) : Nat) : Int))
              generalize (UInt8.ofNat (lc[K / 8].toNat ^^^ 2 ^ (K % 8))) = nb at *
              generalize hxe : lc[K / 8].toNat ^^^ 2 ^ (K % 8) = X at *
              generalize hle : lc[K / 8].toNat = b0 at *
              have k0 : (0 : Int) ≤ (K : Int) := by omega
              have k1 : ((K / 8 : Nat) : Int) < (l.length : Int) := by omega
              have k2 : (K : Int) % 8 < 8 := by omega
              have HS : Hid _ := hst
              have HB : Hid _ := hbst
              have HK : Hid _ := hK
              have HF : Hid _ := hfl
              have HU : Hid _ := hub
              have HP : Hid _ := hpy
              have HP0 : Hid _ := hpy0
              have HN : Hid _ := hnum
              clear hst hbst hK hfl hub hpy hpy0 hnum hle hxe
              go_wp2
              go_region
              go_wp2
              go_roundw
              case rel =>
                refine ⟨k + 1, lc.set (K / 8) nb, by omega, by go_num, ?_, by simpa using hlc, ?_, HB.out.drew, HS.out⟩
                · exact (congrArg Value.bool (decide_eq_true (show pat x (k + 1) (8 * l.length - N) ≠ 0 from HP0.out))).symm
                · rw [HF.out, HN.out, HP.out, pow_xor, HK.out, Nat.xor_assoc]
              case measure => simp [intOf]; omega
            · obtain hbit0 : x / 2 ^ k % 2 = 0 := by omega
              rw [hbit0] at hsa
              have hpn := pat_no x k (8 * l.length - N) (by omega) hbit0
              go_wp2
              go_roundw
              case rel => exact ⟨k + 1, lc, by omega, by go_num, by rw [hpn], hlc, by rw [hpn]; exact hnum, hb1, hr⟩
              case measure => simp [intOf]; omega
          · have i3 : decide ((N : Int) + k < 8 * l.length) = false := by simp; omega
            have hpn := pat_full x k (8 * l.length - N) (by omega)
            go_wp2
            go_roundw
            case rel => exact ⟨k + 1, lc, by omega, by go_num, by rw [hpn], hlc, by rw [hpn]; exact hnum, hb1, hr⟩
            case measure => simp [intOf]; omega
        · obtain rfl : k = 32 := by omega
          have hE := pat_lt x 32 (8 * l.length - N) (by omega)
          have hct := crc_turned l lc hlc.symm N (pat x 32 (8 * l.length - N)) hE (by omega) hnum
          have hB0 : w.heap.size ≤ wr.heap.size := hb1.size
          have hTr := hT.below hb1 hT.pos
          have hsb : Sl wr (.slice p l.length c) l := h.below hb1
          obtain ⟨hp1, hbp1⟩ := parts_one wr (.slice p l.length c) l (by unfold room; omega) hsb
          have hs1 := sum_any _ 1 [l] (by simp [maxLen]) _ hp1 (hTr.below hbp1 hTr.pos)
          have hr2 := hr.below hbp1
          generalize hW2 : wr.alloc (.cells #[.slice p l.length c] 22) = W2 at *
          obtain ⟨hp2, hbp2⟩ := parts_one W2 (.slice (some ⟨g, 0, none⟩) l.length cap) lc (by unfold room; omega) hr2.sl
          have hT2 := hTr.below hbp1 hTr.pos
          have hs2 := sum_any _ 1 [lc] (by simp [maxLen]) _ hp2 (hT2.below hbp2 hT2.pos)
          generalize hW3 : W2.alloc (.cells #[.slice (some ⟨g, 0, none⟩) l.length cap] 22) = W3 at *
          have hT3 := hT2.below hbp2 hT2.pos
          have hk3 := known_any W3 hT3
          have hb3 : Below w.heap.size w W3 := (hb1.trans (hbp1.mono hB0)).trans (hbp2.mono (Nat.le_trans hB0 hbp1.size))
          rw [show ([l].flatten) = l by simp] at hs1
          rw [show ([lc].flatten) = lc by simp] at hs2
          have hq : (((crc l : Nat) : Int) != ((crc lc : Nat) : Int)) = decide (pat x 32 (8 * l.length - N) ≠ 0) := by
            by_cases hz : pat x 32 (8 * l.length - N) = 0
            · have : crc l = crc lc := by
                by_cases hcc : crc l = crc lc
                · exact hcc
                · exact absurd hz (hct.1 hcc)
              simp [hz, this]
            · have h2 : ((crc l : Nat) : Int) ≠ ((crc lc : Nat) : Int) := by have := hct.2 hz; omega
              simp [hz, h2]
          have hz3 : w.heap.size ≤ W3.heap.size := hb3.size
          clear hct hnum hr hr2 hp1 hp2 hsb
          generalize decide (pat x 32 (8 * l.length - N) ≠ 0) = tt at *
          generalize crc l = c1 at *
          generalize crc lc = c2 at *
          go_wp2_with fail
          refine hs1.mono ?_
          rintro r w4 ⟨rfl, rfl⟩
          go_wp2_with fail
          refine hs2.mono ?_
          rintro r w5 ⟨rfl, rfl⟩
          go_wp2_with fail
          refine hk3.mono ?_
          rintro r w6 ⟨rfl, h6⟩
          go_wp2
          go_ret
          exact ⟨rfl, hb3.trans (h6.mono hz3)⟩
end Go.Proofs.YthphmeckcmhijaaDoor
