import Derived.Test.YtcmaccefjlgbfaaXKit
import Derived.Test.YtcmaccefjlgbfaaRestMath
import Derived.Deep.RegionHeld
import Derived.Deep.DeepCutAuto
/-! MemRestores. -/
namespace Go.Proofs.Ytcmaccefjlgbfaa
open Go.RowKit
open Go.Proofs
set_option linter.unusedVariables false
set_option linter.unusedSimpArgs false
def ptB (bs : List (Int × List UInt8)) : List (Int × List UInt8) := bs.map fun t => (t.1, ptk 16384 t.2)
theorem ptB_snoc (bs : List (Int × List UInt8)) (t : Int × List UInt8) : ptB (bs ++ [t]) = ptB bs ++ [(t.1, ptk 16384 t.2)] := by simp [ptB]
theorem RB.lower {W : World} {B B' : Nat} {v : Value} {bs : List (Int × List UInt8)} {gs : List (Nat × Nat)} (h : RB W B v bs gs) (hb : B' ≤ B) : RB W B' v bs gs :=
  ⟨h.len, own_mono h.row hb, fun i t g a c => by obtain ⟨x1, x2, x3, x4⟩ := h.dat i t g a c; exact ⟨x1, x2, x3, by omega⟩, h.nd⟩
theorem RB.none (W : World) (B : Nat) : RB W B (.slice Option.none 0 0) (ptB (([] : List (Int × List UInt8)))) [] := ⟨rfl, World.ownsRow_nil _ _ _ _, fun i t g h1 _ => by simp [ptB] at h1, by simp⟩
/-- A round: the bank's variable, a new row, the bytes, the list one longer. -/
theorem round_kit (wc wr : World) (bs : List (Int × List UInt8)) (t : Int × List UInt8) (dp : Option Addr) (dc k : Nat) (gs : List (Nat × Nat)) (v : Value)
    (hX : Below wc.heap.size wc wr) (hR : RB wr wc.heap.size v (ptB (bs.take k)) gs) (hlk : (ptB (bs.take k)).length = k) (hs : Sl wr (.slice dp t.2.length dc) t.2) :
    ∃ W4 : World, (∀ ty, (Builtin.copy_ #[35, 35] ty #[.slice (some ⟨wr.heap.size + 1, 0, none⟩) 16384 16384, .slice dp t.2.length dc]).run Try.prog ((wr.alloc (.cells #[.int .i64 t.1, .slice dp t.2.length dc] 37)).alloc (.cells (bv (zr 16384)).toArray 5)) = .ok (.int .i64 ((min t.2.length 16384 : Nat) : Int)) W4) ∧
      W4.cell? ⟨wr.heap.size, 0, none⟩ = some (.int .i64 t.1) ∧ W4.heap.size = wr.heap.size + 2 ∧
      (W4.alloc (.cells #[.int .i64 t.1, .slice (some ⟨wr.heap.size + 1, 0, none⟩) 16384 16384] 37)).ownsRow wc.heap.size 37 2 v k (bcs (ptB (bs.take k)) gs) ∧
      Cs (W4.alloc (.cells #[.int .i64 t.1, .slice (some ⟨wr.heap.size + 1, 0, none⟩) 16384 16384] 37)) (.slice (some ⟨W4.heap.size, 0, none⟩) 1 1) 2 1 (bc (t.1, ptk 16384 t.2) (wr.heap.size + 1, 16384)) ∧
      wc.heap.size ≤ (W4.alloc (.cells #[.int .i64 t.1, .slice (some ⟨wr.heap.size + 1, 0, none⟩) 16384 16384] 37)).heap.size ∧
      (∀ v' w5, w5.ownsRow wc.heap.size 37 2 v' (k + 1) (bcs (ptB (bs.take k)) gs ++ bc (t.1, ptk 16384 t.2) (wr.heap.size + 1, 16384)) → Grew (W4.alloc (.cells #[.int .i64 t.1, .slice (some ⟨wr.heap.size + 1, 0, none⟩) 16384 16384] 37)) w5 v v' →
        Below wc.heap.size wc w5 ∧ RB w5 wc.heap.size v' (ptB (bs.take k) ++ [(t.1, ptk 16384 t.2)]) (gs ++ [(wr.heap.size + 1, 16384)])) := by
  have hN := hX.size
  obtain ⟨WA, hWA⟩ : ∃ WA, wr.alloc (.cells #[.int .i64 t.1, .slice dp t.2.length dc] 37) = WA := ⟨_, rfl⟩
  have zA : WA.heap.size = wr.heap.size + 1 := by rw [← hWA]; simp
  have kA : ∀ i, i < wr.heap.size → WA.heap[i]? = wr.heap[i]? := fun i hi => by rw [← hWA]; exact Below.heap_alloc wr _ i hi
  have vA : WA.heap[wr.heap.size]? = some (.cells [.int .i64 t.1, .slice dp t.2.length dc].toArray 37 (0, 0)) := by rw [← hWA]; exact heap_alloc_new wr _
  obtain ⟨WB, hWB⟩ : ∃ WB, WA.alloc (.cells (bv (zr 16384)).toArray 5) = WB := ⟨_, rfl⟩
  have zB : WB.heap.size = wr.heap.size + 2 := by rw [← hWB]; simp; omega
  have kB : ∀ i, i < WA.heap.size → WB.heap[i]? = WA.heap[i]? := fun i hi => by rw [← hWB]; exact Below.heap_alloc WA _ i hi
  have gB : WB.heap[wr.heap.size + 1]? = some (.cells (bv (zr 16384)).toArray 5 (0, 0)) := by rw [← hWB, ← zA]; exact heap_alloc_new WA _
  have hsB : Sl WB (.slice dp t.2.length dc) t.2 := by
    have b : Below wr.heap.size wr WB := ⟨by rw [← hWB, ← hWA]; rfl, by rw [← hWB, ← hWA]; rfl, by rw [← hWB, ← hWA]; rfl, by omega, fun i hi => (kB i (by omega)).trans (kA i hi)⟩
    exact hs.below b
  obtain ⟨W4, hcp, h5, hk4, hz4, o4, t4, x4⟩ := run_copy_new WB (wr.heap.size + 1) 16384 _ t.2 gB hsB
  have z4 : W4.heap.size = wr.heap.size + 2 := by omega
  have k4 : ∀ i, i < wr.heap.size → W4.heap[i]? = wr.heap[i]? := fun i hi => (hk4 i (by omega)).trans ((kB i (by omega)).trans (kA i hi))
  have v4 : W4.heap[wr.heap.size]? = some (.cells [.int .i64 t.1, .slice dp t.2.length dc].toArray 37 (0, 0)) := (hk4 _ (by omega)).trans ((kB _ (by omega)).trans vA)
  have hln : (ptk 16384 t.2).length = 16384 := ptk_len _ _
  have osA : WB.os = wr.os ∧ WB.tape = wr.tape ∧ WB.output = wr.output := by rw [← hWB, ← hWA]; exact ⟨rfl, rfl, rfl⟩
  rw [hWA, hWB]
  have al : ∀ i, i < W4.heap.size → (W4.alloc (.cells #[.int .i64 t.1, .slice (some ⟨wr.heap.size + 1, 0, none⟩) 16384 16384] 37)).heap[i]? = W4.heap[i]? := fun i hi => Below.heap_alloc W4 _ i hi
  refine ⟨W4, hcp, cell_of _ _ 0 _ 37 _ v4 rfl, z4, ?_, ?_, by simp; omega, ?_⟩
  · have := hR.row
    rw [hlk] at this
    exact own_kept this fun g e hg => (al g (by omega)).trans (k4 g hg)
  · refine .inr ⟨⟨W4.heap.size, 0, none⟩, 1, rfl, rfl, ?_, by intro x hx; simp [bc] at hx; rcases hx with rfl | rfl <;> rfl⟩
    intro j x hj
    have hn : (W4.alloc (.cells #[.int .i64 t.1, .slice (some ⟨wr.heap.size + 1, 0, none⟩) 16384 16384] 37)).heap[W4.heap.size]? = some (.cells (bc (t.1, ptk 16384 t.2) (wr.heap.size + 1, 16384)).toArray 37 (0, 0)) := by
      simp only [bc, hln]; exact heap_alloc_new W4 _
    have e : (⟨W4.heap.size, 0, none⟩ : Addr).add j = ⟨W4.heap.size, j, none⟩ := by rw [Addr.add_lit]; simp
    rw [e]
    exact cell_of _ _ _ _ 37 x hn hj
  · intro v' w5 ho hg
    have hgs := hg.size
    simp at hgs
    have hRB := hR.snoc (W1 := W4.alloc (.cells #[.int .i64 t.1, .slice (some ⟨wr.heap.size + 1, 0, none⟩) 16384 16384] 37)) (W2 := w5) (v' := v') (by omega) (t.1, ptk 16384 t.2) (wr.heap.size + 1) (fun i _ hi => (al i (by omega)).trans (k4 i hi)) (by simp; omega) ((al _ (by omega)).trans h5) hln (by omega) hg (by rw [hlk]; exact ho)
    refine ⟨?_, hRB⟩
    refine hg.belowAll (fun x e => (hR.row.lt x e).1) (N := wc.heap.size) (W0 := wc) ?_ (Nat.le_refl _)
    refine ⟨(o4.trans osA.1).trans hX.os, (t4.trans osA.2.1).trans hX.tape, (x4.trans osA.2.2).trans hX.output, by simp; omega, fun i hi => (al i (by omega)).trans ((k4 i (by omega)).trans (hX.block i hi))⟩
set_option maxHeartbeats 4000000
set_option maxRecDepth 100000
theorem restores_any (p : Option Addr) (c : Nat) (bs : List (Int × List UInt8)) (hl : bs.length * 32 ≤ room) (hd : ∀ t ∈ bs, t.2.length + 1 ≤ room) (rp sp : Option Addr) (rc sc' : Nat) (m : MS) (w : World) (h : BnS w p bs) (ram scr : List UInt8) (hr : Sl w (.slice rp ram.length rc) ram) (hs : Sl w (.slice sp scr.length sc') scr) (hrl : ram.length ≤ room) (hsl : scr.length ≤ room)
    (c0 : 0 ≤ m.ch) (c1 : m.ch < 256) (p0 : 0 ≤ m.pad) (p1 : m.pad < 256) (t0 : 0 ≤ m.pitch) (t1 : m.pitch < 65536) (v0 : 0 ≤ m.vol) (v1 : m.vol < 256) (i0 : 0 ≤ m.time) (i1 : m.time < 65536) (ex : Int) (ex0 : -9223372036854775808 ≤ ex) (ex1 : ex ≤ 9223372036854775807) :
    Calls Try.prog 5 #[.agg (imgC (.slice p bs.length c) (.slice rp ram.length rc) (.slice sp scr.length sc') m).toArray, .int .i64 ex] w fun e w' => e = .returned (.bool true) ∧ Below w.heap.size w w' := by
  have hX := XS.start w m p c bs rp sp rc sc' ram scr h hl hd hr hs hrl hsl
  obtain ⟨w1, hw1⟩ : ∃ w1, w.alloc (.cells (imgC (.slice p bs.length c) (.slice rp ram.length rc) (.slice sp scr.length sc') m).toArray 56) = w1 := ⟨_, rfl⟩
  rw [hw1] at hX
  have k1 := cell_of w1 _ 1 _ 56 _ hX.blk rfl
  have HX : Hid _ := hX
  clear hX h hr hs hl hd hrl hsl
  unfold imgC at hw1 ⊢
  go_enter Try.func5, Try.ntmps5
  go_upto_region 1 with fail
  go_cut [24] (fun s24 wc => ∃ g : Bool, s24 = .bool g ∧ wc = w1)
  case first =>
    by_cases a1 : Int.tmod ex 3 = 0
    · have d1 : (Int.tmod ex 3 == 0) = true := by simpa using a1
      go_wp2
      go_meet
      case rel => exact ⟨_, rfl, rfl⟩
    · have d1 : (Int.tmod ex 3 == 0) = false := by simpa using a1
      go_wp2
      go_meet
      case rel => exact ⟨_, rfl, rfl⟩
  case rest =>
    obtain ⟨g, rfl, hwc⟩ := hcut
    obtain rfl := hwc
    clear hw1 k1
    go_upto_if 24 with fail
    go_cut [] (fun wc => XX w wc m)
    case first =>
      cases g with
      | false =>
        go_wp2
        go_meet
        case rel => exact ⟨_, _, _, _, _, _, HX.out⟩
      | true =>
        have hX := HX.out
        obtain ⟨W2, hcp, h52, hk2, hz2, o2, t2, x2⟩ := run_copy_new (wc.alloc (.cells (bv (zr 16384)).toArray 5)) wc.heap.size 16384 (.slice rp ram.length rc) ram (heap_alloc_new wc _) (Sl.below hX.RS ((Below.refl _ _).alloc (Nat.le_refl _) _))
        have hkk : ∀ i, i < wc.heap.size → W2.heap[i]? = wc.heap[i]? := fun i hi => (hk2 i (by omega)).trans (Below.heap_alloc wc _ i hi)
        have hbb : Below w.heap.size w W2 := ⟨o2.trans hX.bel.os, t2.trans hX.bel.tape, x2.trans hX.bel.output, by have := hX.bel.size; rw [hz2]; simp; omega, fun i hi => (hkk i (by have := hX.siz; omega)).trans (hX.bel.block i hi)⟩
        have hfin := hX.setRam hkk hbb wc.heap.size 16384 _ h52 (Nat.le_refl _) (ptk_len 16384 ram) (by unfold room; omega)
        have hb2 := (hkk _ hX.siz).trans hX.blk
        have kx := cell_of W2 w.heap.size 1 _ 56 _ hb2 rfl
        have zx := frozen_of W2 w.heap.size 1 _ 56 hb2
        have kw := cell_of (wc.alloc (.cells (bv (zr 16384)).toArray 5)) w.heap.size 1 _ 56 _ ((Below.heap_alloc wc _ _ hX.siz).trans hX.blk) rfl
        have hmk := run_mk16384
        have HF : Hid _ := hfin
        clear hX hfin hkk hbb h52 hk2 hz2 o2 t2 x2 hb2
        go_wp2_with (first | (at_builtin; refine wpList_copy_eq rfl _ _ rfl _ _ _ rfl rfl W2 hcp ?_))
        go_wp2
        go_meet
        case rel => exact ⟨_, _, _, _, _, _, HF.out⟩
    case rest =>
      obtain ⟨uA, rvA, svA, bsA, ramA, scrA, hXA⟩ := hcut
      obtain ⟨pA, cA, rfl, _⟩ := hXA.BN
      obtain ⟨rpA, rcA, rfl, _⟩ := hXA.RS.ex
      obtain ⟨spA, scA, rfl, _⟩ := hXA.SS.ex
      have k2 := cell_of wc _ 2 _ 56 _ hXA.blk rfl
      have HXA : Hid _ := hXA
      clear hXA HX
      go_upto_region 5 with fail
      go_cut [40] (fun s40 wd => ∃ g : Bool, s40 = .bool g ∧ wd = wc)
      case first =>
        by_cases a1 : Int.tmod ex 5 < 3
        · have d1 : decide (Int.tmod ex 5 < 3) = true := by simpa using a1
          go_wp2
          go_meet
          case rel => exact ⟨_, rfl, rfl⟩
        · have d1 : decide (Int.tmod ex 5 < 3) = false := by simpa using a1
          go_wp2
          go_meet
          case rel => exact ⟨_, rfl, rfl⟩
      case rest =>
        obtain ⟨g2, rfl, hwc⟩ := hcut
        obtain rfl := hwc
        clear k2
        go_upto_if 40 with fail
        go_cut [] (fun wd => XX w wd m)
        case first =>
          cases g2 with
          | false =>
            go_wp2
            go_meet
            case rel => exact ⟨_, _, _, _, _, _, HXA.out⟩
          | true =>
            have hX := HXA.out
            obtain ⟨W2, hcp, h52, hk2, hz2, o2, t2, x2⟩ := run_copy_new (wc.alloc (.cells (bv (zr 3072)).toArray 5)) wc.heap.size 3072 (.slice spA scrA.length scA) scrA (heap_alloc_new wc _) (Sl.below hX.SS ((Below.refl _ _).alloc (Nat.le_refl _) _))
            have hkk : ∀ i, i < wc.heap.size → W2.heap[i]? = wc.heap[i]? := fun i hi => (hk2 i (by omega)).trans (Below.heap_alloc wc _ i hi)
            have hbb : Below w.heap.size w W2 := ⟨o2.trans hX.bel.os, t2.trans hX.bel.tape, x2.trans hX.bel.output, by have := hX.bel.size; rw [hz2]; simp; omega, fun i hi => (hkk i (by have := hX.siz; omega)).trans (hX.bel.block i hi)⟩
            have hfin := hX.setScr hkk hbb wc.heap.size 3072 _ h52 (Nat.le_refl _) (ptk_len 3072 scrA) (by unfold room; omega)
            have hb2 := (hkk _ hX.siz).trans hX.blk
            have kx := cell_of W2 w.heap.size 2 _ 56 _ hb2 rfl
            have zx := frozen_of W2 w.heap.size 2 _ 56 hb2
            have kw := cell_of (wc.alloc (.cells (bv (zr 3072)).toArray 5)) w.heap.size 2 _ 56 _ ((Below.heap_alloc wc _ _ hX.siz).trans hX.blk) rfl
            have hmk := run_mk3072
            have HF : Hid _ := hfin
            clear hX hfin hkk hbb h52 hk2 hz2 o2 t2 x2 hb2
            go_wp2_with (first | (at_builtin; refine wpList_copy_eq rfl _ _ rfl _ _ _ rfl rfl W2 hcp ?_))
            go_wp2
            go_meet
            case rel => exact ⟨_, _, _, _, _, _, HF.out⟩
        case rest =>
          obtain ⟨uB, rvB, svB, bsB, ramB, scrB, hXB⟩ := hcut
          obtain ⟨pB, cB, rfl, _⟩ := hXB.BN
          obtain ⟨rpB, rcB, rfl, _⟩ := hXB.RS.ex
          obtain ⟨spB, scB, rfl, _⟩ := hXB.SS.ex
          have k3 := cell_of wc _ 0 _ 56 _ hXB.blk rfl
          have HXB : Hid _ := hXB
          clear hXB HXA
          go_upto_region 9 with fail
          go_cut [50] (fun s50 wd => ∃ g : Bool, s50 = .bool g ∧ wd = wc)
          case first =>
            go_wp2
            go_meet
            case rel => exact ⟨_, rfl, rfl⟩
          case rest =>
            obtain ⟨g3, rfl, hwc⟩ := hcut
            obtain rfl := hwc
            go_upto_if 50 with fail
            go_cut [] (fun wd => XX w wd m)
            case first =>
              cases g3 with
              | true =>
                have hmk := run_mk16384
                have hbl := HXB.out.bl
                unfold room at hbl
                go_wp2
                go_loopw [7, 54] (fun v i wr => ∃ (k : Nat) (gs : List (Nat × Nat)), k ≤ bsB.length ∧ i = .int .i64 (k : Int) ∧ Below wc.heap.size wc wr ∧ RB wr wc.heap.size v (ptB (bsB.take k)) gs) (fun _ i _ => bsB.length - (intOf i).toNat)
                case atStart => exact ⟨0, [], by omega, rfl, Below.refl _ _, RB.none _ _⟩
                case round =>
                  clear k3
                  obtain ⟨k, gs, hk, rfl, hBc, hR⟩ := hrel
                  have hX := XS.below HXB.out hBc
                  by_cases hlt : k < bsB.length
                  · have i9 : (k : Int) < bsB.length := by omega
                    obtain ⟨pC, cC, eC, hbn⟩ := hX.BN
                    obtain ⟨rfl, _, rfl⟩ : pB = pC ∧ bsB.length = bsB.length ∧ cB = cC := by simpa using eC
                    obtain ⟨bb, o, dv, rfl, e1, e2, e3, e4⟩ := hbn k bsB[k] (List.getElem?_eq_getElem hlt)
                    have htk : ptB (bsB.take (k + 1)) = ptB (bsB.take k) ++ [((bsB[k]).1, ptk 16384 (bsB[k]).2)] := by rw [List.take_succ_eq_append_getElem hlt, ptB_snoc]
                    generalize bsB[k] = t at *
                    obtain ⟨dp, dc, rfl, _⟩ := e3.ex
                    have hlk : (ptB (bsB.take k)).length = k := by simp [ptB]; omega
                    obtain ⟨W4, hcp, ks1, ks2, hown, hcs, hwz, hE⟩ := round_kit wc wr bsB t dp dc k gs u7 hBc hR hlk e3
                    rw [← htk] at hE
                    have hk1 : (k + 1) * 32 ≤ room := by unfold room; omega
                    have hk2 : k + 1 ≤ maxLen := by unfold maxLen; omega
                    have HE : Hid _ := hE
                    clear hE hX hR hBc hbn e3 htk hlk ks2
                    go_wp2_with (first | (at_builtin; refine wpList_copy_eq rfl _ _ rfl _ _ _ rfl rfl W4 hcp ?_) | (at_builtin; refine wpList_append_row _ rfl _ _ 22 37 _ 2 32 Try.underlying22 info37 rfl (by decide) rfl wc.heap.size _ k _ rfl hown _ 1 _ rfl hcs hk1 hk2 hwz ?_))
                    intro v' w5 ho hg
                    obtain ⟨hX5, hR5⟩ := HE.out v' w5 ho hg
                    have HX5 : Hid _ := hX5
                    have HR5 : Hid _ := hR5
                    clear hX5 hR5 ho hg hown hcs HE hcp
                    go_wp2
                    go_roundw
                    case rel =>
                      first
                        | exact ⟨k + 1, _, by omega, by go_num, HX5.out, HR5.out⟩
                        | ((repeat apply Exists.intro); refine ⟨⟨k + 1, _, by omega, ?_, HX5.out, HR5.out⟩, rfl⟩; go_num)
                    case measure => simp [intOf]; omega
                  · obtain rfl : k = bsB.length := by omega
                    rw [List.take_length] at hR
                    obtain ⟨vp, vc, hv7⟩ := own_form hR.row
                    have hfin := hX.setBanks u7 (ptB bsB) gs (hR.lower (Nat.succ_le_of_lt HXB.out.siz)) (by simp [ptB]; unfold room; omega)
                    have kx := cell_of wr w.heap.size 0 _ 56 _ hX.blk rfl
                    have zx := frozen_of wr w.heap.size 0 _ 56 hX.blk
                    rw [hv7] at hfin
                    have HF : Hid _ := hfin
                    subst hv7
                    clear hfin hR hX
                    go_wp2
                    go_meet
                    case rel => exact ⟨_, _, _, _, _, _, HF.out⟩
              | false =>
                go_wp2
                go_meet
                case rel => exact ⟨_, _, _, _, _, _, HXB.out⟩
            case rest =>
              obtain ⟨uC, rvC, svC, bsC, ramC, scrC, hXC⟩ := hcut
              obtain ⟨pC, cC, rfl, hbnC⟩ := hXC.BN
              obtain ⟨rpC, rcC, rfl, _⟩ := hXC.RS.ex
              obtain ⟨spC, scC, rfl, _⟩ := hXC.SS.ex
              obtain ⟨e0, e1, e2, e3, e4, e5, e6, e7⟩ := cells8 hXC.blk
              have hdC : ∀ t ∈ bsC, t.2.length ≤ room := fun t ht => by have := hXC.dl t ht; omega
              have hlC : bsC.length ≤ room := by have := hXC.bl; omega
              have HX : Hid _ := hXC
              clear hXC hbnC HXB k3
              by_cases hOK : mayB (-1) bsC = true ∧ whB bsC ramC scrC m.ch = true
              · have hrr := rrest_yes pC cC bsC HX.out.bl rpC spC rcC scC m wc (by obtain ⟨p9, c9, e9, h9⟩ := HX.out.BN; cases e9; exact h9) ramC scrC HX.out.RS HX.out.SS hOK.1 hOK.2
                unfold imgC at hrr
                go_wp2_with fail
                refine hrr.mono ?_
                rintro e w2 ⟨bR, rfl, _, hb2⟩
                have hX2 := HX.out.below hb2
                obtain ⟨f0, f1, f2, f3, f4, f5, f6, f7⟩ := cells8 hX2.blk
                have hbk := back_any pC cC bsC hX2.bl hX2.dl rpC spC rcC scC m w2 (by obtain ⟨p9, c9, e9, h9⟩ := hX2.BN; cases e9; exact h9) ramC scrC hX2.RS hX2.SS hX2.rl hX2.sl
                unfold imgC at hbk
                have HX2 : Hid _ := hX2
                clear hrr hb2 hX2 e0 e1 e2 e3 e4 e5 e6 e7
                go_wp2_with fail
                refine hbk.mono ?_
                rintro e w3 ⟨uD, rvD, svD, gsD, N1, N2, rfl, hBk, hb3⟩
                have hX3 := HX2.out.below hb3
                obtain ⟨pD, cD, rpD, rcD, spD, scD, rfl, rfl, rfl, hbnD, hrD, hsD⟩ := hBk.forms hdC
                clear hbk HX2 f0 f1 f2 f3 f4 f5 f6 f7
                obtain ⟨w4, hw4⟩ : ∃ w4, w3.alloc (.cells (imgC (.slice pD bsC.length cD) (.slice rpD ramC.length rcD) (.slice spD scrC.length scD) m).toArray 48) = w4 := ⟨_, rfl⟩
                have hb4 : Below w3.heap.size w3 w4 := by rw [← hw4]; exact (Below.refl _ _).alloc (Nat.le_refl _) _
                have hX4 := hX3.below hb4
                have hM4 : w4.heap[w3.heap.size]? = some (.cells (imgC (.slice pD bsC.length cD) (.slice rpD ramC.length rcD) (.slice spD scrC.length scD) m).toArray 48 (0, 0)) := by rw [← hw4]; exact heap_alloc_new w3 _
                obtain ⟨e0, e1, e2, e3, e4, e5, e6, e7⟩ := cells8 hM4
                have hz4 : w3.heap.size < w4.heap.size := lt_of hM4
                have hre := restore_yes pD cD bsC hlC rpD spD rcD scD m w4 (hbnD.below hb4) ramC scrC (hrD.below hb4) (hsD.below hb4) hOK.2 hOK.1 c0 p0 p1 t0 t1 v0 v1 i0 i1
                unfold imgC at hre hw4
                have HX4 : Hid _ := hX4
                have HM4 : Hid _ := hM4
                have HBN : Hid _ := hbnD.below hb4
                have HRD : Hid _ := hrD.below hb4
                have HSD : Hid _ := hsD.below hb4
                clear hX4 hM4 hbnD hrD hsD hX3 hb4 hb3 hBk HX
                go_wp2_with fail
                clear hw4
                refine hre.mono ?_
                rintro e w5 ⟨bM, rfl, hM5, hb5⟩
                clear hre e0 e1 e2 e3 e4 e5 e6 e7
                have hX5 := HX4.out.below hb5
                have hM5b := (hb5.block _ hz4).trans HM4.out
                have sA := cells8 hM5b
                have sB := cells8 hX5.blk
                have s0 : (w5.drew.cell? ⟨w3.heap.size, 0, none⟩ = some (.slice pD bsC.length cD) ∧ w5.drew.cell? ⟨w3.heap.size, 1, none⟩ = some (.slice rpD ramC.length rcD) ∧ w5.drew.cell? ⟨w3.heap.size, 2, none⟩ = some (.slice spD scrC.length scD) ∧ w5.drew.cell? ⟨w3.heap.size, 3, none⟩ = some (.int .u8 m.ch) ∧ w5.drew.cell? ⟨w3.heap.size, 4, none⟩ = some (.int .u8 m.pad) ∧ w5.drew.cell? ⟨w3.heap.size, 5, none⟩ = some (.int .u16 m.pitch) ∧ w5.drew.cell? ⟨w3.heap.size, 6, none⟩ = some (.int .u8 m.vol) ∧ w5.drew.cell? ⟨w3.heap.size, 7, none⟩ = some (.int .u16 m.time)) ∧ (w5.drew.cell? ⟨w.heap.size, 0, none⟩ = some (.slice pC bsC.length cC) ∧ w5.drew.cell? ⟨w.heap.size, 1, none⟩ = some (.slice rpC ramC.length rcC) ∧ w5.drew.cell? ⟨w.heap.size, 2, none⟩ = some (.slice spC scrC.length scC) ∧ w5.drew.cell? ⟨w.heap.size, 3, none⟩ = some (.int .u8 m.ch) ∧ w5.drew.cell? ⟨w.heap.size, 4, none⟩ = some (.int .u8 m.pad) ∧ w5.drew.cell? ⟨w.heap.size, 5, none⟩ = some (.int .u16 m.pitch) ∧ w5.drew.cell? ⟨w.heap.size, 6, none⟩ = some (.int .u8 m.vol) ∧ w5.drew.cell? ⟨w.heap.size, 7, none⟩ = some (.int .u16 m.time)) := ⟨sA, sB⟩
                have hc1 := imageC pD bsC.length cD rpD spD ramC.length rcD scrC.length scD m w5.drew
                have hX5' := hX5.below ((Below.refl _ _).drew)
                have HX5 : Hid _ := hX5'
                have HM5 : Hid _ := (show w5.drew.heap[w3.heap.size]? = some (.cells (imgC (.slice pD bsC.length cD) (.slice rpD ramC.length rcD) (.slice spD scrC.length scD) m).toArray 48 (0, 0)) from hM5b)
                have hb5' : Below w4.heap.size w4 w5.drew := hb5.drew
                have HB5N : Hid _ := BnS.below HBN.out hb5'
                have HB5R : Hid _ := Sl.below HRD.out hb5'
                have HB5S : Hid _ := Sl.below HSD.out hb5'
                have hzz : w3.heap.size < w5.drew.heap.size := Nat.lt_of_lt_of_le hz4 hb5.size
                clear hX5 hM5b sA sB hX5' hb5'
                go_wp2_with fail
                go_region_held (fun w' => (w'.cell? ⟨w3.heap.size, 0, none⟩ = some (.slice pD bsC.length cD) ∧ w'.cell? ⟨w3.heap.size, 1, none⟩ = some (.slice rpD ramC.length rcD) ∧ w'.cell? ⟨w3.heap.size, 2, none⟩ = some (.slice spD scrC.length scD) ∧ w'.cell? ⟨w3.heap.size, 3, none⟩ = some (.int .u8 m.ch) ∧ w'.cell? ⟨w3.heap.size, 4, none⟩ = some (.int .u8 m.pad) ∧ w'.cell? ⟨w3.heap.size, 5, none⟩ = some (.int .u16 m.pitch) ∧ w'.cell? ⟨w3.heap.size, 6, none⟩ = some (.int .u8 m.vol) ∧ w'.cell? ⟨w3.heap.size, 7, none⟩ = some (.int .u16 m.time)) ∧ (w'.cell? ⟨w.heap.size, 0, none⟩ = some (.slice pC bsC.length cC) ∧ w'.cell? ⟨w.heap.size, 1, none⟩ = some (.slice rpC ramC.length rcC) ∧ w'.cell? ⟨w.heap.size, 2, none⟩ = some (.slice spC scrC.length scC) ∧ w'.cell? ⟨w.heap.size, 3, none⟩ = some (.int .u8 m.ch) ∧ w'.cell? ⟨w.heap.size, 4, none⟩ = some (.int .u8 m.pad) ∧ w'.cell? ⟨w.heap.size, 5, none⟩ = some (.int .u16 m.pitch) ∧ w'.cell? ⟨w.heap.size, 6, none⟩ = some (.int .u8 m.vol) ∧ w'.cell? ⟨w.heap.size, 7, none⟩ = some (.int .u16 m.time)))
                  (first | (with_reducible exact s0) | (with_reducible exact s6) | (with_reducible exact s7) | (with_reducible exact s8))
                  (first
                    | (go_at_call 27; refine hc1.mono ?_; rintro e w6 ⟨rfl, hb6⟩; have hX6 := XS.below HX5.out hb6; have s6 := And.intro (cells8 ((hb6.block _ hzz).trans HM5.out)) (cells8 hX6.blk); have hc2 := sameC pD pC cD cC bsC hlC rpD rpC spD spC rcD rcC scD scC ramC scrC m w6 (BnS.below HB5N.out hb6) (by obtain ⟨p9, c9, e9, h9⟩ := hX6.BN; cases e9; exact h9) (Sl.below HB5R.out hb6) hX6.RS (Sl.below HB5S.out hb6) hX6.SS; have HX6 : Hid _ := hX6; have HM6 : Hid _ := (hb6.block _ hzz).trans HM5.out; have hz6 := Nat.lt_of_lt_of_le hzz hb6.size; have HB6 : Hid _ := hb6; clear hX6 hb6 hc1 s0)
                    | (go_at_call 26; refine hc2.mono ?_; rintro e w7 ⟨rfl, hb7⟩; have hX7 := XS.below HX6.out hb7; have s7 := And.intro (cells8 ((hb7.block _ hz6).trans HM6.out)) (cells8 hX7.blk); have hc3 := awake_any w7; have HX7 : Hid _ := hX7; have HM7 : Hid _ := (hb7.block _ hz6).trans HM6.out; have hz7 := Nat.lt_of_lt_of_le hz6 hb7.size; have HB7 : Hid _ := hb7; clear hX7 hb7 hc2 s6)
                    | (go_at_call 9; refine hc3.mono ?_; rintro e w8 ⟨rfl, hb8⟩; have hX8 := XS.below HX7.out hb8; have s8 := And.intro (cells8 ((hb8.block _ hz7).trans HM7.out)) (cells8 hX8.blk); have HX8 : Hid _ := hX8; have HB8 : Hid _ := hb8; clear hX8 hb8 hc3 s7))
                have hM8 : HasM w8.drew (fun k => w4.heap.size ≤ k) bM (mR bsC ramC scrC m) := (((hM5.below ((Below.refl _ _).drew)).below HB6.out).below HB7.out |>.below HB8.out).below ((Below.refl _ _).drew)
                have hinO : inO (mR bsC ramC scrC m) 16 = bsC := inO_all bsC hOK.1 (whB_parts _ _ _ _ hOK.2).1 _ rfl
                have hi1 := image_has bM w8.drew hM8
                rw [hinO] at hi1
                have s9 : w8.drew.cell? ⟨w.heap.size, 0, none⟩ = some (.slice pC bsC.length cC) ∧ w8.drew.cell? ⟨w.heap.size, 1, none⟩ = some (.slice rpC ramC.length rcC) ∧ w8.drew.cell? ⟨w.heap.size, 2, none⟩ = some (.slice spC scrC.length scC) ∧ w8.drew.cell? ⟨w.heap.size, 3, none⟩ = some (.int .u8 m.ch) ∧ w8.drew.cell? ⟨w.heap.size, 4, none⟩ = some (.int .u8 m.pad) ∧ w8.drew.cell? ⟨w.heap.size, 5, none⟩ = some (.int .u16 m.pitch) ∧ w8.drew.cell? ⟨w.heap.size, 6, none⟩ = some (.int .u8 m.vol) ∧ w8.drew.cell? ⟨w.heap.size, 7, none⟩ = some (.int .u16 m.time) := s8.2
                have HX8d : Hid _ := XS.below HX8.out ((Below.refl _ _).drew)
                have HM8 : Hid _ := hM8
                clear s8 hM5 hinO hM8 HX5 HX6 HX7 HM5 HM6 HM7 HB6 HB7 HB8
                go_wp2_with fail
                go_region_held (fun w' => w'.cell? ⟨w.heap.size, 0, none⟩ = some (.slice pC bsC.length cC) ∧ w'.cell? ⟨w.heap.size, 1, none⟩ = some (.slice rpC ramC.length rcC) ∧ w'.cell? ⟨w.heap.size, 2, none⟩ = some (.slice spC scrC.length scC) ∧ w'.cell? ⟨w.heap.size, 3, none⟩ = some (.int .u8 m.ch) ∧ w'.cell? ⟨w.heap.size, 4, none⟩ = some (.int .u8 m.pad) ∧ w'.cell? ⟨w.heap.size, 5, none⟩ = some (.int .u16 m.pitch) ∧ w'.cell? ⟨w.heap.size, 6, none⟩ = some (.int .u8 m.vol) ∧ w'.cell? ⟨w.heap.size, 7, none⟩ = some (.int .u16 m.time))
                  (first | (with_reducible exact s9) | (with_reducible exact s10) | (with_reducible exact s11) | (with_reducible exact s12) | (with_reducible exact s13))
                  (first
                    | (go_at_call 21; refine hi1.mono ?_; rintro e w10 ⟨uE, rvE, svE, gsE, N3, N4, rfl, hIm, hb10⟩; obtain ⟨pE, cE, rpE, rcE, spE, scE, rfl, rfl, rfl, hbnE, hrE, hsE⟩ := hIm.forms hdC; have hX10 := XS.below HX8d.out hb10; have s10 := cells8 hX10.blk; have hc4 := imageC pE bsC.length cE rpE spE ramC.length rcE scrC.length scE m w10; have HX10 : Hid _ := hX10; have HE1 : Hid _ := hbnE; have HE2 : Hid _ := hrE; have HE3 : Hid _ := hsE; have HB10 : Hid _ := hb10; have HM10 : Hid _ := HasM.below HM8.out hb10; clear hX10 hbnE hrE hsE hb10 hIm hi1 s9)
                    | (go_at_call 27; refine hc4.mono ?_; rintro e w11 ⟨rfl, hb11⟩; have hX11 := XS.below HX10.out hb11; have s11 := cells8 hX11.blk; have hc5 := sameC pE pC cE cC bsC hlC rpE rpC spE spC rcE rcC scE scC ramC scrC m w11 (BnS.below HE1.out hb11) (by obtain ⟨p9, c9, e9, h9⟩ := hX11.BN; cases e9; exact h9) (Sl.below HE2.out hb11) hX11.RS (Sl.below HE3.out hb11) hX11.SS; have HX11 : Hid _ := hX11; have HM11 : Hid _ := HasM.below HM10.out hb11; clear hX11 hb11 hc4 s10)
                    | (go_at_call 26; refine hc5.mono ?_; rintro e w12 ⟨rfl, hb12⟩; have hX12 := XS.below HX11.out hb12; have s12 := cells8 hX12.blk; have hc6 := tones_any bM w12 (HasM.below HM11.out hb12) (by simp [mR]); have HX12 : Hid _ := hX12; clear hX12 hb12 hc5 s11)
                    | (go_at_call 24; refine hc6.mono ?_; rintro e w13 ⟨uT, rfl, hT, hb13⟩; obtain ⟨pT, cT, rfl⟩ := own_form hT; have hX13 := XS.below HX12.out hb13; have s13 := cells8 hX13.blk; have HX13 : Hid _ := hX13; clear hX13 hb13 hT hc6 s12))
                clear s13
                go_wp2
                go_ret
                exact ⟨rfl, HX13.out.bel.os, HX13.out.bel.tape, HX13.out.bel.output, HX13.out.bel.size, HX13.out.bel.block⟩
              · have hrr := rrest_no pC cC bsC HX.out.bl rpC spC rcC scC m wc (by obtain ⟨p9, c9, e9, h9⟩ := HX.out.BN; cases e9; exact h9) ramC scrC HX.out.RS HX.out.SS hOK
                unfold imgC at hrr
                go_wp2_with fail
                refine hrr.mono ?_
                rintro e w2 ⟨rfl, hb2⟩
                have hX2 := HX.out.below hb2
                obtain ⟨f0, f1, f2, f3, f4, f5, f6, f7⟩ := cells8 hX2.blk
                have hbk := back_any pC cC bsC hX2.bl hX2.dl rpC spC rcC scC m w2 (by obtain ⟨p9, c9, e9, h9⟩ := hX2.BN; cases e9; exact h9) ramC scrC hX2.RS hX2.SS hX2.rl hX2.sl
                unfold imgC at hbk
                have HX2 : Hid _ := hX2
                clear hrr hb2 hX2 e0 e1 e2 e3 e4 e5 e6 e7
                go_wp2_with fail
                refine hbk.mono ?_
                rintro e w3 ⟨uD, rvD, svD, gsD, N1, N2, rfl, hBk, hb3⟩
                have hX3 := HX2.out.below hb3
                obtain ⟨pD, cD, rpD, rcD, spD, scD, rfl, rfl, rfl, hbnD, hrD, hsD⟩ := hBk.forms hdC
                clear hbk HX2 f0 f1 f2 f3 f4 f5 f6 f7
                obtain ⟨w4, hw4⟩ : ∃ w4, w3.alloc (.cells (imgC (.slice pD bsC.length cD) (.slice rpD ramC.length rcD) (.slice spD scrC.length scD) m).toArray 48) = w4 := ⟨_, rfl⟩
                have hb4 : Below w3.heap.size w3 w4 := by rw [← hw4]; exact (Below.refl _ _).alloc (Nat.le_refl _) _
                have hX4 := hX3.below hb4
                have hM4 : w4.heap[w3.heap.size]? = some (.cells (imgC (.slice pD bsC.length cD) (.slice rpD ramC.length rcD) (.slice spD scrC.length scD) m).toArray 48 (0, 0)) := by rw [← hw4]; exact heap_alloc_new w3 _
                obtain ⟨e0, e1, e2, e3, e4, e5, e6, e7⟩ := cells8 hM4
                have hz4 : w3.heap.size < w4.heap.size := lt_of hM4
                have hre := restore_no pD cD bsC hlC rpD spD rcD scD m w4 (hbnD.below hb4) ramC scrC (by cases h9 : mayB (-1) bsC with | false => exact .inr rfl | true => exact .inl (by cases h8 : whB bsC ramC scrC m.ch with | false => rfl | true => exact absurd ⟨h9, h8⟩ hOK))
                unfold imgC at hre hw4
                have HX4 : Hid _ := hX4
                have HM4 : Hid _ := hM4
                have HBN : Hid _ := hbnD.below hb4
                have HRD : Hid _ := hrD.below hb4
                have HSD : Hid _ := hsD.below hb4
                clear hX4 hM4 hbnD hrD hsD hX3 hb4 hb3 hBk HX
                go_wp2_with fail
                clear hw4
                refine hre.mono ?_
                rintro e w5 ⟨rfl, hb5⟩
                clear hre e0 e1 e2 e3 e4 e5 e6 e7
                have hX5 := HX4.out.below hb5
                have hM5b := (hb5.block _ hz4).trans HM4.out
                have sA := cells8 hM5b
                have sB := cells8 hX5.blk
                have s0 : (w5.drew.cell? ⟨w3.heap.size, 0, none⟩ = some (.slice pD bsC.length cD) ∧ w5.drew.cell? ⟨w3.heap.size, 1, none⟩ = some (.slice rpD ramC.length rcD) ∧ w5.drew.cell? ⟨w3.heap.size, 2, none⟩ = some (.slice spD scrC.length scD) ∧ w5.drew.cell? ⟨w3.heap.size, 3, none⟩ = some (.int .u8 m.ch) ∧ w5.drew.cell? ⟨w3.heap.size, 4, none⟩ = some (.int .u8 m.pad) ∧ w5.drew.cell? ⟨w3.heap.size, 5, none⟩ = some (.int .u16 m.pitch) ∧ w5.drew.cell? ⟨w3.heap.size, 6, none⟩ = some (.int .u8 m.vol) ∧ w5.drew.cell? ⟨w3.heap.size, 7, none⟩ = some (.int .u16 m.time)) ∧ (w5.drew.cell? ⟨w.heap.size, 0, none⟩ = some (.slice pC bsC.length cC) ∧ w5.drew.cell? ⟨w.heap.size, 1, none⟩ = some (.slice rpC ramC.length rcC) ∧ w5.drew.cell? ⟨w.heap.size, 2, none⟩ = some (.slice spC scrC.length scC) ∧ w5.drew.cell? ⟨w.heap.size, 3, none⟩ = some (.int .u8 m.ch) ∧ w5.drew.cell? ⟨w.heap.size, 4, none⟩ = some (.int .u8 m.pad) ∧ w5.drew.cell? ⟨w.heap.size, 5, none⟩ = some (.int .u16 m.pitch) ∧ w5.drew.cell? ⟨w.heap.size, 6, none⟩ = some (.int .u8 m.vol) ∧ w5.drew.cell? ⟨w.heap.size, 7, none⟩ = some (.int .u16 m.time)) := ⟨sA, sB⟩
                have hc1 := imageC pD bsC.length cD rpD spD ramC.length rcD scrC.length scD m w5.drew
                have hX5' := hX5.below ((Below.refl _ _).drew)
                have HX5 : Hid _ := hX5'
                have HM5 : Hid _ := (show w5.drew.heap[w3.heap.size]? = some (.cells (imgC (.slice pD bsC.length cD) (.slice rpD ramC.length rcD) (.slice spD scrC.length scD) m).toArray 48 (0, 0)) from hM5b)
                have hb5' : Below w4.heap.size w4 w5.drew := hb5.drew
                have HB5N : Hid _ := BnS.below HBN.out hb5'
                have HB5R : Hid _ := Sl.below HRD.out hb5'
                have HB5S : Hid _ := Sl.below HSD.out hb5'
                have hzz : w3.heap.size < w5.drew.heap.size := Nat.lt_of_lt_of_le hz4 hb5.size
                clear hX5 hM5b sA sB hX5' hb5'
                go_wp2_with fail
                go_region_held (fun w' => (w'.cell? ⟨w3.heap.size, 0, none⟩ = some (.slice pD bsC.length cD) ∧ w'.cell? ⟨w3.heap.size, 1, none⟩ = some (.slice rpD ramC.length rcD) ∧ w'.cell? ⟨w3.heap.size, 2, none⟩ = some (.slice spD scrC.length scD) ∧ w'.cell? ⟨w3.heap.size, 3, none⟩ = some (.int .u8 m.ch) ∧ w'.cell? ⟨w3.heap.size, 4, none⟩ = some (.int .u8 m.pad) ∧ w'.cell? ⟨w3.heap.size, 5, none⟩ = some (.int .u16 m.pitch) ∧ w'.cell? ⟨w3.heap.size, 6, none⟩ = some (.int .u8 m.vol) ∧ w'.cell? ⟨w3.heap.size, 7, none⟩ = some (.int .u16 m.time)) ∧ (w'.cell? ⟨w.heap.size, 0, none⟩ = some (.slice pC bsC.length cC) ∧ w'.cell? ⟨w.heap.size, 1, none⟩ = some (.slice rpC ramC.length rcC) ∧ w'.cell? ⟨w.heap.size, 2, none⟩ = some (.slice spC scrC.length scC) ∧ w'.cell? ⟨w.heap.size, 3, none⟩ = some (.int .u8 m.ch) ∧ w'.cell? ⟨w.heap.size, 4, none⟩ = some (.int .u8 m.pad) ∧ w'.cell? ⟨w.heap.size, 5, none⟩ = some (.int .u16 m.pitch) ∧ w'.cell? ⟨w.heap.size, 6, none⟩ = some (.int .u8 m.vol) ∧ w'.cell? ⟨w.heap.size, 7, none⟩ = some (.int .u16 m.time)))
                  (first | (with_reducible exact s0) | (with_reducible exact s6) | (with_reducible exact s7) | (with_reducible exact s8))
                  (first
                    | (go_at_call 27; refine hc1.mono ?_; rintro e w6 ⟨rfl, hb6⟩; have hX6 := XS.below HX5.out hb6; have s6 := And.intro (cells8 ((hb6.block _ hzz).trans HM5.out)) (cells8 hX6.blk); have hc2 := sameC pD pC cD cC bsC hlC rpD rpC spD spC rcD rcC scD scC ramC scrC m w6 (BnS.below HB5N.out hb6) (by obtain ⟨p9, c9, e9, h9⟩ := hX6.BN; cases e9; exact h9) (Sl.below HB5R.out hb6) hX6.RS (Sl.below HB5S.out hb6) hX6.SS; have HX6 : Hid _ := hX6; have HM6 : Hid _ := (hb6.block _ hzz).trans HM5.out; have hz6 := Nat.lt_of_lt_of_le hzz hb6.size; have HB6 : Hid _ := hb6; clear hX6 hb6 hc1 s0)
                    | (go_at_call 26; refine hc2.mono ?_; rintro e w7 ⟨rfl, hb7⟩; have hX7 := XS.below HX6.out hb7; have s7 := And.intro (cells8 ((hb7.block _ hz6).trans HM6.out)) (cells8 hX7.blk); have hc3 := awake_any w7; have HX7 : Hid _ := hX7; have HM7 : Hid _ := (hb7.block _ hz6).trans HM6.out; have hz7 := Nat.lt_of_lt_of_le hz6 hb7.size; have HB7 : Hid _ := hb7; clear hX7 hb7 hc2 s6)
                    | (go_at_call 9; refine hc3.mono ?_; rintro e w8 ⟨rfl, hb8⟩; have hX8 := XS.below HX7.out hb8; have s8 := And.intro (cells8 ((hb8.block _ hz7).trans HM7.out)) (cells8 hX8.blk); have HX8 : Hid _ := hX8; have HB8 : Hid _ := hb8; clear hX8 hb8 hc3 s7))
                clear s8 HX5 HX6 HX7 HM5 HM6 HM7 HB6 HB7 HB8
                go_wp2_with fail
                go_quiet (fail)
                go_wp2
                go_ret
                exact ⟨rfl, HX8.out.bel.os, HX8.out.bel.tape, HX8.out.bel.output, HX8.out.bel.size, HX8.out.bel.block⟩
end Go.Proofs.Ytcmaccefjlgbfaa
