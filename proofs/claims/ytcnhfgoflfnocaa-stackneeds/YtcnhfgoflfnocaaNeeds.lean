import Derived.Test.YtcnhfgoflfnocaaNames
import Derived.Deep.DeepCutAuto
/-! StackNeeds, walked. -/
namespace Go.Proofs.Ytcnhfgoflfnocaa
open Go.RowKit
open Go.Proofs
set_option linter.unusedVariables false
set_option linter.unusedSimpArgs false
structure NS (w : World) (b : Nat) (wr : World) (l : List Int) : Prop where
  d : HasD wr b l
  hb : w.heap.size ≤ b
  bel : Below w.heap.size w wr
theorem NS.next {w wr wr' : World} {b : Nat} {l : List Int} (h : NS w b wr l) (k : Below wr.heap.size wr wr') : NS w b wr' l := ⟨h.d.below k, h.hb, h.bel.trans (k.mono h.bel.size)⟩
theorem NS.at {w wr wr' : World} {b : Nat} {l l' : List Int} (h : NS w b wr l) (d : HasD wr' b l') (k : At b wr wr') : NS w b wr' l' := ⟨d, h.hb, h.bel.trans (k.below h.hb h.bel.size)⟩
theorem NS.draw {w wr : World} {b : Nat} {l : List Int} (h : NS w b wr l) : NS w b wr.drew l := h.next ((Below.refl _ _).drew)
theorem need_u {n : Nat} {i o : Int} (h : (n : Int) < max i 0) : need n i o = 1 := by rw [need, if_pos h]
theorem need_o {n : Nat} {i o : Int} (h : ¬ (n : Int) < max i 0) (h2 : 256 < (n : Int) - max i 0 + max o 0) : need n i o = 2 := by rw [need, if_neg h, if_pos h2]
theorem need_0 {n : Nat} {i o : Int} (h : ¬ (n : Int) < max i 0) (h2 : ¬ 256 < (n : Int) - max i 0 + max o 0) : need n i o = 0 := by rw [need, if_neg h, if_neg h2]
theorem take_snoc (L : List Int) (m : Nat) (h : m < L.length) : L.take (m + 1) = L.take m ++ [L[m]] := by
  rw [List.take_add_one, List.getElem?_eq_getElem h]; rfl
set_option maxHeartbeats 4000000
set_option maxRecDepth 100000
theorem needs_u (p p2 : Option Addr) (c c2 : Nat) (cells more : List Int) (hc : cells.length ≤ c) (hc2 : more.length ≤ c2) (hr : cells.length ≤ room) (hr2 : more.length ≤ room) (i o : Int) (w : World) (h1 : Sl eU 1 w p cells) (h2 : Sl eU 1 w p2 more) (hu : ((min cells.length 256 : Nat) : Int) < max i 0) :
    Calls Try.prog 3 #[.slice p cells.length c, .int .i64 i, .int .i64 o, .slice p2 more.length c2] w fun e w' => e = .returned (.bool true) ∧ Below w.heap.size w w' := by
  have HU := hid hu
  clear hu
  have H1 := hid h1
  have H2 := hid h2
  clear h1 h2
  go_enter Try.func3, Try.ntmps3
  go_upto_if 23 with fail
  go_cut [0] (fun s0 wc => ∃ L : List Int, L.length = min cells.length 256 ∧ s0 = .slice p L.length c ∧ Sl eU 1 w p L ∧ wc = w)
  case first =>
    by_cases a : 256 < cells.length
    · have d1 : decide ((256 : Int) < (cells.length : Int)) = true := decide_eq_true (by omega)
      have hcc : 256 ≤ c := by omega
      go_wp2
      go_meet
      case rel => exact ⟨cells.take 256, by rw [List.length_take]; omega, by rw [List.length_take, Nat.min_eq_left (by omega)], H1.out.take 256, rfl⟩
    · have d1 : decide ((256 : Int) < (cells.length : Int)) = false := decide_eq_false (by omega)
      go_wp2
      go_meet
      case rel => exact ⟨cells, by omega, rfl, H1.out, rfl⟩
  case rest =>
    obtain ⟨L, hLm, rfl, hS, hwc⟩ := hcut
    have hL : L.length ≤ 256 := by omega
    have HL := hid hLm
    clear hLm
    obtain rfl := hwc.symm
    have S1 := hid hS
    have hst := stacks_any p none c 0 L [] (by unfold room; omega) (by decide) w hS (fun i a h => by simp at h)
    clear hS H1 hc hr
    go_wp2_with fail
    refine hst.mono ?_
    rintro e w1 ⟨bel, ⟨_, b, b2, rfl, g1, _, l1, _, _⟩ | ⟨cc, _⟩⟩
    rotate_left
    · exfalso; rw [mayS, decide_eq_true hL] at cc; exact absurd cc (by decide)
    have N1 := hid (NS.mk g1 l1 bel)
    clear hst bel g1 l1
    go_wp2_with fail
    refine (fixed_any w1).mono ?_
    rintro e w2 ⟨rfl, bel⟩
    have N2 := hid (N1.out.next bel)
    clear bel N1
    go_wp2_with fail
    refine (dneed b L i o w2 N2.out.d).mono ?_
    rintro e w3 ⟨rfl, hw3⟩
    obtain rfl := hw3.symm
    go_wp2_with fail
    refine (dlen b L w2 N2.out.d).mono ?_
    rintro e w3 ⟨rfl, hw3⟩
    obtain rfl := hw3.symm
    go_upto_region 9 with fail
    go_cut [1, 2] (fun s1 s2 wc => s1 = .int .i64 (max i 0) ∧ s2 = .int .i64 (max o 0) ∧ wc = w2)
    case first =>
      have hm : ∀ z : Int, max z 0 = if z < 0 then 0 else z := fun z => by split <;> omega
      by_cases a1 : i < 0
      · by_cases a2 : o < 0
        · go_wp2
          go_meet
          case rel => exact ⟨by rw [hm, if_pos a1], by rw [hm, if_pos a2], rfl⟩
        · go_wp2
          go_meet
          case rel => exact ⟨by rw [hm, if_pos a1], by rw [hm, if_neg (by omega)], rfl⟩
      · by_cases a2 : o < 0
        · go_wp2
          go_meet
          case rel => exact ⟨by rw [hm, if_neg (by omega)], by rw [hm, if_pos a2], rfl⟩
        · go_wp2
          go_meet
          case rel => exact ⟨by rw [hm, if_neg (by omega)], by rw [hm, if_neg (by omega)], rfl⟩
    case rest =>
      obtain ⟨rfl, rfl, hwc⟩ := hcut
      obtain rfl := hwc.symm
      have hI : 0 ≤ max i 0 := by omega
      have hO : 0 ≤ max o 0 := by omega
      have vu := hid (fun h => need_u (n := L.length) (i := i) (o := o) h)
      have vo := hid (fun h h2 => need_o (n := L.length) (i := i) (o := o) h h2)
      have v0 := hid (fun h h2 => need_0 (n := L.length) (i := i) (o := o) h h2)
      generalize need L.length i o = V at *
      generalize max i 0 = I at *
      generalize max o 0 = O at *
      have a1 : (L.length : Int) < I := by have := HU.out; have := HL.out; omega
      · have d1 : decide ((L.length : Int) < I) = true := decide_eq_true a1
        obtain rfl := vu.out a1
        clear vu vo v0
        have hn := dneed b L I 0 w2 N2.out.d
        rw [need_u (n := L.length) (i := I) (o := 0) (by omega)] at hn
        go_wp2_with fail
        refine hn.mono ?_
        rintro e w3 ⟨rfl, hw3⟩
        obtain rfl := hw3.symm
        go_wp2
        go_ret
        exact ⟨rfl, N2.out.bel⟩
end Go.Proofs.Ytcnhfgoflfnocaa
