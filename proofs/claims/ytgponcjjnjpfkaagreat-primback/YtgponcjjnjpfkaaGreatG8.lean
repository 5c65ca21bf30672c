import Derived.Test.YtgponcjjnjpfkaaGreatG7
/-! PrimBack: its mathematics; sameCells, pushed. -/
namespace Go.Proofs.YtgponcjjnjpfkaaGreat.L
open Go.RowKit
open Go.Proofs
open P
set_option linter.unusedVariables false
set_option linter.unusedSimpArgs false
set_option maxHeartbeats 4000000
set_option maxRecDepth 100000
theorem wf_ram {m : M.MS} (h : M.Wf m) (p : Int) (x : UInt8) (h0 : 32768 ≤ p) (h1 : p < 49152) : M.Wf (M.st m p x) := by
  unfold M.st
  rw [if_neg (by omega), if_neg (by omega), if_pos h1]
  exact { h with ram := by simp [h.ram] }
theorem cl_sc (m : M.MS) (hw : M.Wf m) (p v : Int) (h0 : 32768 ≤ p) (h1 : p + 1 < 49152) (v0 : 0 ≤ v) (v1 : v < 65536) : M.cl (M.sc m p v) p = v := by
  have e : (p + 1) % 65536 = p + 1 := by omega
  unfold M.cl M.sc
  rw [e, M.ld_same _ (wf_ram hw p _ h0 (by omega)) (p + 1) _ (by omega) (by omega) (fun h => by omega), M.ld_other _ (wf_ram hw p _ h0 (by omega)) (p + 1) p _ (by omega) (by omega) (by omega) (by omega) (by omega), M.ld_same _ hw p _ (by omega) (by omega) (fun h => by omega), M.bt_b8, M.bt_b8]
  omega
theorem ld_plt (m : M.MS) (hw : M.Wf m) (c r z : Int) (c0 : 0 ≤ c) (c1 : c < 64) (r0 : 0 ≤ r) (r1 : r < 48) : M.ld (M.plt m c r z) (49152 + 64 * r + c) = z % 256 := by
  unfold M.plt
  rw [if_pos ⟨c1, r1⟩, M.ld_same _ hw _ _ (by omega) (by omega) (fun h => by omega), M.bt_b8]
theorem st_cyc (m : M.MS) (p : Int) (x : UInt8) : (M.st m p x).cyc = m.cyc := by
  unfold M.st M.stp
  split <;> try rfl
  split
  · split <;> rfl
  split <;> try rfl
  split <;> try rfl
  split <;> try rfl
  split <;> try rfl
  split <;> try rfl
  split <;> rfl
theorem sc_keep (m : M.MS) (p v : Int) (h0 : 0 ≤ p) (h1 : p + 1 < 65280) : (M.sc m p v).tones = m.tones ∧ (M.sc m p v).cyc = m.cyc := by
  have e : (p + 1) % 65536 = p + 1 := by omega
  unfold M.sc
  rw [e, M.st_low_tones _ _ _ (by omega), M.st_low_tones _ _ _ (by omega), st_cyc, st_cyc]
  exact ⟨rfl, rfl⟩
theorem plt_keep (m : M.MS) (c r z : Int) (c0 : 0 ≤ c) (r0 : 0 ≤ r) : (M.plt m c r z).tones = m.tones ∧ (M.plt m c r z).cyc = m.cyc := by
  unfold M.plt
  split
  · rename_i h
    rw [M.st_low_tones _ _ _ (by omega), st_cyc]
    exact ⟨rfl, rfl⟩
  · exact ⟨rfl, rfl⟩
theorem tone_is (m : M.MS) (hw : M.Wf m) (x y : Int) (x0 : 0 ≤ x) (x1 : x < 65536) : (M.st (M.sc m 65284 x) 65286 (M.b8 y)).tones = m.tones ++ [(m.cyc, x, y % 256)] := by
  have e : ((65284 : Int) + 1) % 65536 = 65285 := by decide
  have p0 := hw.pitch0
  have b1 := M.bt_b8 x
  have b2 := M.bt_b8 (x / 256)
  have b3 := M.bt_b8 y
  unfold M.sc
  rw [e]
  simp [M.st, M.stp, b1, b2, b3]
  omega
theorem WPe.putD {W W' : World} {B g bd br bm : Nat} {D D' : List Int} {R : List (Int × Int)} {m : M.MS} (h : WPe W B g bd br bm D R m) (hB : B ≤ W.heap.size) (hd : S.HasD W' bd D') (t : S.At bd W W') : WPe W' B g bd br bm D' R m ∧ Below B W W' := by
  obtain ⟨F, h⟩ := h
  obtain ⟨x, y, z, hb⟩ := h.blk
  have hg := h.gd
  refine ⟨⟨F, ⟨x, y, z, (t.block _ (S.lt_of hb) hg.1).trans hb⟩, ⟨hd, h.p.r.kept (t.block _ (S.lt_of h.p.r.1) (fun e => h.p.dr e.symm)), h.p.m.kept (fun i hi hF => t.block i hi (fun e => h.p.fd (e ▸ hF))), h.p.dr, h.p.fd, h.p.fr⟩, h.ng, h.lo, h.lf⟩, ?_⟩
  exact S.At.below t h.lo.2.1 hB
theorem sameL (p p' : Option Addr) (c c' : Nat) (l : List Int) (hl : l.length ≤ S.room) (w : World) (h : S.Sl S.eU 1 w p l) (h' : S.Sl S.eU 1 w p' l) :
    Calls Tryz.prog 18 #[.slice p l.length c, .slice p' l.length c'] w fun e w' => e = .returned (.bool true) ∧ ∃ q, w' = w.drewN q := by
  unfold S.room at hl
  go_enter Tryz.func18, Tryz.ntmps18
  go_wp2
  go_loopw [5] (fun i wr => ∃ k q : Nat, k ≤ l.length ∧ i = .int .i64 (k : Int) ∧ wr = w.drewN q) (fun i _ => l.length - (intOf i).toNat)
  case atStart => exact ⟨0, 0, by omega, rfl, rfl⟩
  case round =>
    obtain ⟨k, q, hk, rfl, rfl⟩ := hrel
    by_cases hlt : k < l.length
    · have i1 : (k : Int) < l.length := by omega
      obtain ⟨b, o, rfl, e1⟩ := h.u k l[k] (List.getElem?_eq_getElem hlt)
      obtain ⟨b', o', rfl, f1⟩ := h'.u k l[k] (List.getElem?_eq_getElem hlt)
      generalize l[k] = t at *
      have g1 : ∀ q, (w.drewN q).cell? ⟨b, o + k, none⟩ = some (.int .u16 t) := fun q => e1
      have g4 : ∀ q, (w.drewN q).cell? ⟨b', o' + k, none⟩ = some (.int .u16 t) := fun q => f1
      clear h h'
      go_wp2_with fail
      go_quiet (fail)
      go_wp2
      go_roundw
      case rel =>
        first
          | exact ⟨k + 1, _, by omega, by go_num, rfl⟩
          | ((repeat apply Exists.intro); refine ⟨⟨k + 1, _, by omega, ?_, rfl⟩, rfl⟩; go_num)
      case measure => simp [intOf]; omega
    · obtain rfl : k = l.length := by omega
      go_wp2
      go_ret
      exact ⟨rfl, _, rfl⟩

theorem pushed_any (op : Int) (hp : plain op = true) (p : Option Addr) (c : Nat) (D : List Int) (hc : D.length ≤ c) (hn : p = none → c = 0) (hl : D.length ≤ 200) (hD : ∀ x ∈ D, C.C x) (w : World) (h : S.Sl S.eU 1 w p D) (hf : fl op D [] = 0) :
    Calls Tryz.prog 20 #[.int .i64 op, .slice p D.length c] w fun e w' => ∃ u, e = .returned (.tuple #[u, .bool true]) ∧ S.RowU w' w.heap.size u (xD op D [] mB) ∧ Below w.heap.size w w' := by
  have hbo : Calls Tryz.prog 11 #[.slice p D.length c, .slice none 0 0] w fun e w' => BornR w w' e D [] := by
    have := born_any p none c 0 D [] hc (by decide) hn (fun _ => rfl) (by unfold S.room; omega) (by decide) w h (fun i a h => by simp at h)
    rw [List.take_of_length_le (by omega)] at this
    exact this
  go_enter Tryz.func20, Tryz.ntmps20
  go_wp2_with fail
  refine hbo.mono ?_
  rintro e w1 ⟨g, bd, br, bm, bx, bq', bz, F, G, ev, qv, rfl, hW, b1⟩
  have hE := hW.e
  have hdo := do_w op hp w.heap.size g bd br bm D [] mB hD (by decide) w1.drew hE.drew b1.size
  rw [hf] at hdo
  have s0 := hE.drew.cells
  clear hE hW hbo
  generalize hD2 : xD op D [] mB = D2 at *
  have HD2 := S.hid hD2
  clear hD2
  generalize xR op D [] = R2 at *
  generalize xM op D [] mB = m2 at *
  go_wp2_with fail
  go_region_held (fun w' => w'.cell? ⟨g, 0, none⟩ = some (.pointer (some ⟨bd, 0, none⟩)) ∧ w'.cell? ⟨g, 1, none⟩ = some (.pointer (some ⟨br, 0, none⟩)) ∧ w'.cell? ⟨g, 2, none⟩ = some (.pointer (some ⟨bm, 0, none⟩)))
    (first | (with_reducible exact s0) | (with_reducible exact s1))
    (first | (go_at_call 12; refine hdo.mono ?_; rintro e w2 ⟨rfl, hE, b2⟩; have s1 := hE.cells))
  have b12 : Below w.heap.size w1 w2 := ⟨b2.os, b2.tape, b2.output, b2.size, b2.block⟩
  have hdc := S.dcells bd D2 w2 hE.d
  have c0 := hE.cells.1
  have HB := S.hid (b1.trans b12)
  clear hdo s0 s1 b2 hE b1 b12
  go_wp2_with fail
  refine hdc.mono ?_
  rintro e w3 ⟨u, rfl, hu, b3⟩
  obtain ⟨p7, c7, rfl, -, -⟩ := hu.ls.ex
  go_wp2
  exact bodyPost_ret (v := .tuple #[.slice p7 D2.length c7, .bool true]) (by simp [results, Tryz.results20, go_sem]) rfl ⟨_, rfl, by rw [HD2.out]; exact S.own_mono hu HB.out.size, bb HB.out b3⟩
end Go.Proofs.YtgponcjjnjpfkaaGreat.L
/-! PrimBack, walked. -/
namespace Go.Proofs.YtgponcjjnjpfkaaGreat.L
open Go.RowKit
open Go.Proofs
open P
set_option linter.unusedVariables false
set_option linter.unusedSimpArgs false
set_option maxHeartbeats 8000000
set_option maxRecDepth 100000
theorem cnil : ∀ x ∈ ([] : List Int), C.C x := by simp
theorem cc {a : Int} {l : List Int} (h : C.C a) (t : ∀ x ∈ l, C.C x) : ∀ x ∈ a :: l, C.C x := by
  intro x hx
  rcases List.mem_cons.1 hx with rfl | hx
  · exact h
  · exact t x hx
theorem sameB (p p' : Option Addr) (c c' : Nat) (l : List Int) (hl : l.length ≤ S.room) (w : World) (h : S.Sl S.eU 1 w p l) (h' : S.Sl S.eU 1 w p' l) :
    Calls Tryz.prog 18 #[.slice p l.length c, .slice p' l.length c'] w fun e w' => e = .returned (.bool true) ∧ Below w.heap.size w w' := by
  refine (sameL p p' c c' l hl w h h').mono ?_
  rintro e w' ⟨rfl, q, rfl⟩
  exact ⟨rfl, rfl, rfl, rfl, Nat.le_refl _, fun _ _ => rfl⟩
def tt (x y z : Int) (k : Nat) : Int := if k % 3 = 0 then x else if k % 3 = 1 then y else z
theorem tt3 (x y z : Int) (k : Nat) : tt x y z (k + 3) = tt x y z k := by unfold tt; rw [Nat.add_mod_right]
theorem back_walk (x y z at_ : Int) (hx : C.C x) (hy : C.C y) (hz : C.C z) (ha : C.C at_) (w : World) : Calls Tryz.prog 4 #[.int .u16 x, .int .u16 y, .int .u16 z, .int .u16 at_] w fun e w' => e = .returned (.bool true) ∧ Below w.heap.size w w' := by
  have htt : ∀ k, C.C (tt x y z k) := fun k => by unfold tt; split; · exact hx
                                                  split; · exact hy
                                                  exact hz
  have ht0 : mB.tones.length ≤ 999000 := by decide
  go_enter Tryz.func4, Tryz.ntmps4
  obtain ⟨v1, hv1⟩ : ∃ v1, w.alloc (.cells #[.int .u16 x, .int .u16 y, .int .u16 z] 26) = v1 := ⟨_, rfl⟩
  have bv1 : Below w.heap.size w v1 := by rw [← hv1]; exact bel_alloc w _
  have sv1 : S.Sl S.eU 1 v1 (some ⟨w.heap.size, 0, none⟩) [x, y, z] := by rw [← hv1]; exact sl_block S.hU _ _ 26 _ (heap_alloc_new w _)
  have hbo : Calls Tryz.prog 11 #[.slice (some ⟨w.heap.size, 0, none⟩) 3 3, .slice none 0 0] v1 fun e w' => BornR v1 w' e [x, y, z] [] := born_any (some ⟨w.heap.size, 0, none⟩) none 3 0 [x, y, z] [] (by simp) (by decide) (by intro e; cases e) (fun _ => rfl) (by unfold S.room; simp) (by decide) v1 sv1 (fun i a h => by simp at h)
  have HV := S.hid bv1
  clear bv1 sv1
  go_wp2_with fail
  refine hbo.mono ?_
  rintro e v1b ⟨g, bd, br, bm, bx, bq', bz, F, G, ev, qv, rfl, hW, b5⟩
  obtain ⟨BB, hBB⟩ : ∃ BB, v1.heap.size = BB := ⟨_, rfl⟩
  have hE := hW.e
  have HX := S.hid (bb HV.out b5)
  have HS : Hid (w.heap.size ≤ BB) := by rw [← hBB]; exact HV.out.size
  have LSZ : Hid (BB ≤ v1b.heap.size) := by rw [← hBB]; exact b5.size
  rw [hBB] at hE
  have HE := S.hid hE
  clear hE hW b5 hbo HV hv1 hBB
  go_wp2_with fail
  refine (fixed_any _).mono ?_
  rintro e v2 ⟨rfl, b6⟩
  have hE := HE.out.below b6
  have HX := S.hid (bb HX.out b6)
  have LSZ' : Hid (BB ≤ v2.heap.size) := Nat.le_trans LSZ.out b6.size
  clear b6 HE LSZ
  have LSZ := LSZ'
  clear LSZ'
  have HE := S.hid hE
  clear hE
  go_wp2
  go_loopw [10] (fun i wr => ∃ k : Nat, k ≤ 3 ∧ i = .int .i64 (k : Int) ∧ WPe wr BB g bd br bm [tt x y z k, tt x y z (k + 1), tt x y z (k + 2)] [] mB ∧ BB ≤ wr.heap.size ∧ Below w.heap.size w wr) (fun i _ => 3 - (intOf i).toNat)
  case atStart => exact ⟨0, by omega, rfl, HE.out, LSZ.out, HX.out⟩
  case round =>
    obtain ⟨k, hk, rfl, hE, hL, hX⟩ := hrel
    clear HE LSZ HX
    have LSZ := S.hid hL
    have HX := S.hid hX
    clear hL hX
    by_cases hlt : k < 3
    · have hlt1 : (k : Int) < 3 := by omega
      have htE := tt3 x y z k
      have hdo := do_w 16 rfl BB g bd br bm [(tt x y z k), (tt x y z (k + 1)), (tt x y z (k + 2))] [] mB (cc (htt k) (cc (htt (k + 1)) (cc (htt (k + 2)) cnil))) ht0 wr.drew hE.drew LSZ.out
      rw [show fl 16 [(tt x y z k), (tt x y z (k + 1)), (tt x y z (k + 2))] [] = 0 from rfl, show xD 16 [(tt x y z k), (tt x y z (k + 1)), (tt x y z (k + 2))] [] mB = [(tt x y z (k + 1)), (tt x y z (k + 2)), (tt x y z k)] from rfl, show xR 16 [(tt x y z k), (tt x y z (k + 1)), (tt x y z (k + 2))] [] = [] from rfl, show xM 16 [(tt x y z k), (tt x y z (k + 1)), (tt x y z (k + 2))] [] mB = mB from rfl] at hdo
      have s0 := hE.drew.cells
      clear hE
      go_wp2_with fail
      go_region_held (fun w' => w'.cell? ⟨g, 0, none⟩ = some (.pointer (some ⟨bd, 0, none⟩)) ∧ w'.cell? ⟨g, 1, none⟩ = some (.pointer (some ⟨br, 0, none⟩)) ∧ w'.cell? ⟨g, 2, none⟩ = some (.pointer (some ⟨bm, 0, none⟩)))
        (first | (with_reducible exact s0) | (with_reducible exact s1))
        (first | (go_at_call 12; refine hdo.mono ?_; rintro e q1 ⟨rfl, hE, b6⟩; have s1 := hE.cells))
      have HX := S.hid (HX.out.trans (Below.mono (⟨b6.os, b6.tape, b6.output, b6.size, b6.block⟩ : Below BB wr q1) HS.out))
      have LSZ' : Hid (BB ≤ q1.heap.size) := Nat.le_trans LSZ.out b6.size
      clear hdo s0 s1 b6 LSZ
      have LSZ := LSZ'
      clear LSZ'
      rw [← htE] at hE
      have HE := S.hid hE
      clear hE htE
      go_wp2
      go_roundw
      case rel =>
        first
          | exact ⟨k + 1, by omega, by go_num, HE.out, LSZ.out, HX.out⟩
          | ((repeat apply Exists.intro); refine ⟨⟨k + 1, by omega, ?_, HE.out, LSZ.out, HX.out⟩, rfl⟩; go_num)
      case measure => simp [intOf]; omega
    · obtain rfl : k = 3 := by omega
      have hE : WPe wr BB g bd br bm [x, y, z] [] mB := hE
      clear htt
      have hdo := do_w 55 rfl BB g bd br bm [x, y, z] [] mB (cc hx (cc hy (cc hz cnil))) ht0 wr.drew hE.drew LSZ.out
      rw [show fl 55 [x, y, z] [] = 0 from rfl, show xD 55 [x, y, z] [] mB = [x, y] from rfl, show xR 55 [x, y, z] [] = [(4, z)] from rfl, show xM 55 [x, y, z] [] mB = mB from rfl] at hdo
      have s0 := hE.drew.cells
      clear hE
      go_wp2_with fail
      go_region_held (fun w' => w'.cell? ⟨g, 0, none⟩ = some (.pointer (some ⟨bd, 0, none⟩)) ∧ w'.cell? ⟨g, 1, none⟩ = some (.pointer (some ⟨br, 0, none⟩)) ∧ w'.cell? ⟨g, 2, none⟩ = some (.pointer (some ⟨bm, 0, none⟩)))
        (first | (with_reducible exact s0) | (with_reducible exact s1))
        (first | (go_at_call 12; refine hdo.mono ?_; rintro e q2 ⟨rfl, hE, b6⟩; have s1 := hE.cells))
      have HX := S.hid (HX.out.trans (Below.mono (⟨b6.os, b6.tape, b6.output, b6.size, b6.block⟩ : Below BB wr q2) HS.out))
      have LSZ' : Hid (BB ≤ q2.heap.size) := Nat.le_trans LSZ.out b6.size
      clear hdo s0 s1 b6 LSZ
      have LSZ := LSZ'
      clear LSZ'
      have hdo := do_w 14 rfl BB g bd br bm [x, y] [(4, z)] mB (cc hx (cc hy cnil)) ht0 q2.drew hE.drew LSZ.out
      rw [show fl 14 [x, y] [(4, z)] = 0 from rfl, show xD 14 [x, y] [(4, z)] mB = [y, x] from rfl, show xR 14 [x, y] [(4, z)] = [(4, z)] from rfl, show xM 14 [x, y] [(4, z)] mB = mB from rfl] at hdo
      have s0 := hE.drew.cells
      clear hE
      go_wp2_with fail
      go_region_held (fun w' => w'.cell? ⟨g, 0, none⟩ = some (.pointer (some ⟨bd, 0, none⟩)) ∧ w'.cell? ⟨g, 1, none⟩ = some (.pointer (some ⟨br, 0, none⟩)) ∧ w'.cell? ⟨g, 2, none⟩ = some (.pointer (some ⟨bm, 0, none⟩)))
        (first | (with_reducible exact s0) | (with_reducible exact s1))
        (first | (go_at_call 12; refine hdo.mono ?_; rintro e q3 ⟨rfl, hE, b6⟩; have s1 := hE.cells))
      have HX := S.hid (HX.out.trans (Below.mono (⟨b6.os, b6.tape, b6.output, b6.size, b6.block⟩ : Below BB q2 q3) HS.out))
      have LSZ' : Hid (BB ≤ q3.heap.size) := Nat.le_trans LSZ.out b6.size
      clear hdo s0 s1 b6 LSZ
      have LSZ := LSZ'
      clear LSZ'
      have hdo := do_w 14 rfl BB g bd br bm [y, x] [(4, z)] mB (cc hy (cc hx cnil)) ht0 q3.drew hE.drew LSZ.out
      rw [show fl 14 [y, x] [(4, z)] = 0 from rfl, show xD 14 [y, x] [(4, z)] mB = [x, y] from rfl, show xR 14 [y, x] [(4, z)] = [(4, z)] from rfl, show xM 14 [y, x] [(4, z)] mB = mB from rfl] at hdo
      have s0 := hE.drew.cells
      clear hE
      go_wp2_with fail
      go_region_held (fun w' => w'.cell? ⟨g, 0, none⟩ = some (.pointer (some ⟨bd, 0, none⟩)) ∧ w'.cell? ⟨g, 1, none⟩ = some (.pointer (some ⟨br, 0, none⟩)) ∧ w'.cell? ⟨g, 2, none⟩ = some (.pointer (some ⟨bm, 0, none⟩)))
        (first | (with_reducible exact s0) | (with_reducible exact s1))
        (first | (go_at_call 12; refine hdo.mono ?_; rintro e q4 ⟨rfl, hE, b6⟩; have s1 := hE.cells))
      have HX := S.hid (HX.out.trans (Below.mono (⟨b6.os, b6.tape, b6.output, b6.size, b6.block⟩ : Below BB q3 q4) HS.out))
      have LSZ' : Hid (BB ≤ q4.heap.size) := Nat.le_trans LSZ.out b6.size
      clear hdo s0 s1 b6 LSZ
      have LSZ := LSZ'
      clear LSZ'
      have hdo := do_w 56 rfl BB g bd br bm [x, y] [(4, z)] mB (cc hx (cc hy cnil)) ht0 q4.drew hE.drew LSZ.out
      rw [show fl 56 [x, y] [(4, z)] = 0 from rfl, show xD 56 [x, y] [(4, z)] mB = [x, y, z] from rfl, show xR 56 [x, y] [(4, z)] = [] from rfl, show xM 56 [x, y] [(4, z)] mB = mB from rfl] at hdo
      have s0 := hE.drew.cells
      clear hE
      go_wp2_with fail
      go_region_held (fun w' => w'.cell? ⟨g, 0, none⟩ = some (.pointer (some ⟨bd, 0, none⟩)) ∧ w'.cell? ⟨g, 1, none⟩ = some (.pointer (some ⟨br, 0, none⟩)) ∧ w'.cell? ⟨g, 2, none⟩ = some (.pointer (some ⟨bm, 0, none⟩)))
        (first | (with_reducible exact s0) | (with_reducible exact s1))
        (first | (go_at_call 12; refine hdo.mono ?_; rintro e q5 ⟨rfl, hE, b6⟩; have s1 := hE.cells))
      have HX := S.hid (HX.out.trans (Below.mono (⟨b6.os, b6.tape, b6.output, b6.size, b6.block⟩ : Below BB q4 q5) HS.out))
      have LSZ' : Hid (BB ≤ q5.heap.size) := Nat.le_trans LSZ.out b6.size
      clear hdo s0 s1 b6 LSZ
      have LSZ := LSZ'
      clear LSZ'
      have hdc := S.dcells bd [x, y, z] q5 hE.d
      have c0 := hE.cells.1
      have HE := S.hid hE
      clear hE
      go_wp2_with fail
      refine hdc.mono ?_
      rintro e q6 ⟨u, rfl, hu, b6⟩
      obtain ⟨p7, cp7, rfl, -, slp7⟩ := hu.ls.ex
      have hE := HE.out
      have hE := hE.below b6
      have HX := S.hid (bb HX.out b6)
      have LSZ' : Hid (BB ≤ q6.heap.size) := Nat.le_trans LSZ.out (b6).size
      clear LSZ
      have LSZ := LSZ'
      clear LSZ'
      clear HE hdc c0 b6 hu
      have ba := bel_alloc q6 (.cells #[.int .u16 x, .int .u16 y, .int .u16 z] 26)
      have hsm := sameB p7 (some ⟨q6.heap.size, 0, none⟩) cp7 3 [x, y, z] (by unfold S.room; simp) (q6.alloc (.cells #[.int .u16 x, .int .u16 y, .int .u16 z] 26)) (slp7.below ba) (sl_block S.hU _ _ 26 _ (heap_alloc_new q6 _))
      simp only [List.length_cons, List.length_nil, Nat.reduceAdd] at hsm
      have HE := S.hid hE
      clear hE
      go_wp2_with fail
      refine hsm.mono ?_
      rintro e q7 ⟨rfl, b6⟩
      have b7 := bb ba b6
      have hE := HE.out
      have hE := hE.below b7
      have HX := S.hid (bb HX.out b7)
      have LSZ' : Hid (BB ≤ q7.heap.size) := Nat.le_trans LSZ.out (b7).size
      clear LSZ
      have LSZ := LSZ'
      clear LSZ'
      clear HE hsm ba b6 b7
      have hrl : Calls Tryz.prog 19 #[.pointer (some ⟨br, 0, none⟩)] q7 fun e w' => e = .returned (.int .i64 0) ∧ w' = q7 := S.rlen br [] q7 hE.r
      have c1 := hE.cells.2.1
      have HE := S.hid hE
      clear hE slp7
      go_wp2_with fail
      refine hrl.mono ?_
      rintro e w9 ⟨rfl, h9⟩
      obtain rfl := h9.symm
      have hE := HE.out
      clear HE hrl c1 h9
      have ba := bel_alloc q7 (.cells #[.int .u16 x, .int .u16 y] 26)
      have hpu := pushed_any 18 rfl (some ⟨q7.heap.size, 0, none⟩) 2 [x, y] (by simp) (by intro e; cases e) (by simp) (cc hx (cc hy cnil)) (q7.alloc (.cells #[.int .u16 x, .int .u16 y] 26)) (sl_block S.hU _ _ 26 _ (heap_alloc_new q7 _)) rfl
      rw [show xD 18 [x, y] [] mB = [y, x, y] from rfl] at hpu
      simp only [List.length_cons, List.length_nil, Nat.reduceAdd] at hpu
      have HE := S.hid hE
      clear hE
      go_wp2_with fail
      refine hpu.mono ?_
      rintro e q8 ⟨u, rfl, hu, b6⟩
      obtain ⟨pa, cpa, rfl, -, slpa⟩ := hu.ls.ex
      have b7 := bb ba b6
      have hE := HE.out
      have hE := hE.below b7
      have HX := S.hid (bb HX.out b7)
      have LSZ' : Hid (BB ≤ q8.heap.size) := Nat.le_trans LSZ.out (b7).size
      clear LSZ
      have LSZ := LSZ'
      clear LSZ'
      clear HE hpu ba b6 b7 hu
      have ba := bel_alloc q8 (.cells #[.int .u16 x, .int .u16 y] 26)
      have hpu := pushed_any 17 rfl (some ⟨q8.heap.size, 0, none⟩) 2 [x, y] (by simp) (by intro e; cases e) (by simp) (cc hx (cc hy cnil)) (q8.alloc (.cells #[.int .u16 x, .int .u16 y] 26)) (sl_block S.hU _ _ 26 _ (heap_alloc_new q8 _)) rfl
      rw [show xD 17 [x, y] [] mB = [y] from rfl] at hpu
      simp only [List.length_cons, List.length_nil, Nat.reduceAdd] at hpu
      have HE := S.hid hE
      clear hE
      go_wp2_with fail
      refine hpu.mono ?_
      rintro e q9 ⟨u, rfl, hu, b6⟩
      obtain ⟨pb, cpb, rfl, -, slpb⟩ := hu.ls.ex
      have b7 := bb ba b6
      have hE := HE.out
      have hE := hE.below b7
      have HX := S.hid (bb HX.out b7)
      have LSZ' : Hid (BB ≤ q9.heap.size) := Nat.le_trans LSZ.out (b7).size
      clear LSZ
      have LSZ := LSZ'
      clear LSZ'
      have slpa := slpa.below b7
      clear HE hpu ba b6 b7 hu
      have ba := bel_alloc q9 (.cells #[.int .u16 x, .int .u16 y] 26)
      have hpu := pushed_any 19 rfl (some ⟨q9.heap.size, 0, none⟩) 2 [x, y] (by simp) (by intro e; cases e) (by simp) (cc hx (cc hy cnil)) (q9.alloc (.cells #[.int .u16 x, .int .u16 y] 26)) (sl_block S.hU _ _ 26 _ (heap_alloc_new q9 _)) rfl
      rw [show xD 19 [x, y] [] mB = [x, y, x, y] from rfl] at hpu
      simp only [List.length_cons, List.length_nil, Nat.reduceAdd] at hpu
      have HE := S.hid hE
      clear hE
      go_wp2_with fail
      refine hpu.mono ?_
      rintro e q10 ⟨u, rfl, hu, b6⟩
      obtain ⟨pc, cpc, rfl, -, slpc⟩ := hu.ls.ex
      have b7 := bb ba b6
      have hE := HE.out
      have hE := hE.below b7
      have HX := S.hid (bb HX.out b7)
      have LSZ' : Hid (BB ≤ q10.heap.size) := Nat.le_trans LSZ.out (b7).size
      clear LSZ
      have LSZ := LSZ'
      clear LSZ'
      have slpa := slpa.below b7
      have slpb := slpb.below b7
      clear HE hpu ba b6 b7 hu
      have ba := bel_alloc q10 (.cells #[.int .u16 x, .int .u16 y] 26)
      have hpu := pushed_any 22 rfl (some ⟨q10.heap.size, 0, none⟩) 2 [x, y] (by simp) (by intro e; cases e) (by simp) (cc hx (cc hy cnil)) (q10.alloc (.cells #[.int .u16 x, .int .u16 y] 26)) (sl_block S.hU _ _ 26 _ (heap_alloc_new q10 _)) rfl
      rw [show xD 22 [x, y] [] mB = [(C.bi 22 x y)] from rfl] at hpu
      simp only [List.length_cons, List.length_nil, Nat.reduceAdd] at hpu
      have HE := S.hid hE
      clear hE
      go_wp2_with fail
      refine hpu.mono ?_
      rintro e q11 ⟨u, rfl, hu, b6⟩
      obtain ⟨pd, cpd, rfl, -, slpd⟩ := hu.ls.ex
      have b7 := bb ba b6
      have hE := HE.out
      have hE := hE.below b7
      have HX := S.hid (bb HX.out b7)
      have LSZ' : Hid (BB ≤ q11.heap.size) := Nat.le_trans LSZ.out (b7).size
      clear LSZ
      have LSZ := LSZ'
      clear LSZ'
      have slpa := slpa.below b7
      have slpb := slpb.below b7
      have slpc := slpc.below b7
      clear HE hpu ba b6 b7 hu
      have hbi : C.bi 22 x y = (x - y) % 65536 := by unfold C.bi C.biRaw C.cl; rw [if_neg (by decide), if_pos rfl]
      rw [hbi] at slpd
      simp only [List.length_cons, List.length_nil, Nat.reduceAdd]
      have ba := bel_alloc q11 (.cells #[.int .u16 y, .int .u16 x, .int .u16 y] 26)
      have hsm := sameB pa (some ⟨q11.heap.size, 0, none⟩) cpa 3 [y, x, y] (by unfold S.room; simp) (q11.alloc (.cells #[.int .u16 y, .int .u16 x, .int .u16 y] 26)) (slpa.below ba) (sl_block S.hU _ _ 26 _ (heap_alloc_new q11 _))
      simp only [List.length_cons, List.length_nil, Nat.reduceAdd] at hsm
      have HE := S.hid hE
      clear hE
      go_wp2_with fail
      refine hsm.mono ?_
      rintro e q12 ⟨rfl, b6⟩
      have b7 := bb ba b6
      have hE := HE.out
      have hE := hE.below b7
      have HX := S.hid (bb HX.out b7)
      have LSZ' : Hid (BB ≤ q12.heap.size) := Nat.le_trans LSZ.out (b7).size
      clear LSZ
      have LSZ := LSZ'
      clear LSZ'
      have slpb := slpb.below b7
      have slpc := slpc.below b7
      have slpd := slpd.below b7
      clear HE hsm ba b6 b7
      have ba := bel_alloc q12 (.cells #[.int .u16 y] 26)
      have hsm := sameB pb (some ⟨q12.heap.size, 0, none⟩) cpb 1 [y] (by unfold S.room; simp) (q12.alloc (.cells #[.int .u16 y] 26)) (slpb.below ba) (sl_block S.hU _ _ 26 _ (heap_alloc_new q12 _))
      simp only [List.length_cons, List.length_nil, Nat.reduceAdd] at hsm
      have HE := S.hid hE
      clear hE
      go_wp2_with fail
      refine hsm.mono ?_
      rintro e q13 ⟨rfl, b6⟩
      have b7 := bb ba b6
      have hE := HE.out
      have hE := hE.below b7
      have HX := S.hid (bb HX.out b7)
      have LSZ' : Hid (BB ≤ q13.heap.size) := Nat.le_trans LSZ.out (b7).size
      clear LSZ
      have LSZ := LSZ'
      clear LSZ'
      have slpc := slpc.below b7
      have slpd := slpd.below b7
      clear HE hsm ba b6 b7
      have ba := bel_alloc q13 (.cells #[.int .u16 x, .int .u16 y, .int .u16 x, .int .u16 y] 26)
      have hsm := sameB pc (some ⟨q13.heap.size, 0, none⟩) cpc 4 [x, y, x, y] (by unfold S.room; simp) (q13.alloc (.cells #[.int .u16 x, .int .u16 y, .int .u16 x, .int .u16 y] 26)) (slpc.below ba) (sl_block S.hU _ _ 26 _ (heap_alloc_new q13 _))
      simp only [List.length_cons, List.length_nil, Nat.reduceAdd] at hsm
      have HE := S.hid hE
      clear hE
      go_wp2_with fail
      refine hsm.mono ?_
      rintro e q14 ⟨rfl, b6⟩
      have b7 := bb ba b6
      have hE := HE.out
      have hE := hE.below b7
      have HX := S.hid (bb HX.out b7)
      have LSZ' : Hid (BB ≤ q14.heap.size) := Nat.le_trans LSZ.out (b7).size
      clear LSZ
      have LSZ := LSZ'
      clear LSZ'
      have slpd := slpd.below b7
      clear HE hsm ba b6 b7
      have ba := bel_alloc q14 (.cells #[.int .u16 ((x - y) % 65536)] 26)
      have hsm := sameB pd (some ⟨q14.heap.size, 0, none⟩) cpd 1 [((x - y) % 65536)] (by unfold S.room; simp) (q14.alloc (.cells #[.int .u16 ((x - y) % 65536)] 26)) (slpd.below ba) (sl_block S.hU _ _ 26 _ (heap_alloc_new q14 _))
      simp only [List.length_cons, List.length_nil, Nat.reduceAdd] at hsm
      have HE := S.hid hE
      clear hE
      go_wp2_with fail
      refine hsm.mono ?_
      rintro e q15 ⟨rfl, b6⟩
      have b7 := bb ba b6
      have hE := HE.out
      have hE := hE.below b7
      have HX := S.hid (bb HX.out b7)
      have LSZ' : Hid (BB ≤ q15.heap.size) := Nat.le_trans LSZ.out (b7).size
      clear LSZ
      have LSZ := LSZ'
      clear LSZ'
      clear HE hsm ba b6 b7
      obtain ⟨FB, hMB⟩ := hE.mem
      have hwB := hMB.wf
      clear hMB FB hbi
      obtain ⟨pl, hpv⟩ : ∃ pl, IntKind.u16.wrap (32768 + at_.tmod 16382) = pl := ⟨_, rfl⟩
      have hpb : 32768 ≤ pl ∧ pl + 1 < 49152 := by
        rw [← hpv, M.u16_wrap]
        have a1 := Int.tmod_nonneg 16382 ha.1
        have a2 := Int.tmod_lt_of_pos at_ (b := 16382) (by decide)
        omega
      have hpl : C.C pl := ⟨by omega, by omega⟩
      obtain ⟨m1, hm1⟩ : ∃ m1, M.sc mB pl x = m1 := ⟨_, rfl⟩
      have kB : mB.tones = [] ∧ mB.cyc = 0 := ⟨rfl, rfl⟩
      have k1 : m1.tones = [] ∧ m1.cyc = 0 := by rw [← hm1]; exact ⟨(sc_keep mB pl x (by omega) (by omega)).1.trans kB.1, (sc_keep mB pl x (by omega) (by omega)).2.trans kB.2⟩
      have ht1 : m1.tones.length ≤ 999000 := by rw [k1.1]; decide
      have hc1 : M.cl m1 pl = x := by rw [← hm1]; exact cl_sc mB hwB pl x hpb.1 hpb.2 hx.1 hx.2
      have HM1 := S.hid hm1
      have HK1 := S.hid (And.intro k1 hc1)
      clear hm1 k1 hc1 kB hwB
      have hEa := hE.below (bel_alloc q15 (.cells #[.int .u16 x, .int .u16 pl] 26))
      have hps := S.dpush_yes bd [x, y, z] [x, pl] (some ⟨q15.heap.size, 0, none⟩) 2 (q15.alloc (.cells #[.int .u16 x, .int .u16 pl] 26)) hEa.d (sl_block S.hU _ _ 26 _ (heap_alloc_new q15 _)) (by simp)
      simp only [List.length_cons, List.length_nil, Nat.reduceAdd, List.cons_append, List.nil_append] at hps
      have LSA : BB ≤ (q15.alloc (.cells #[.int .u16 x, .int .u16 pl] 26)).heap.size := Nat.le_trans LSZ.out (bel_alloc q15 _).size
      have c0 := hE.cells.1
      have HA := S.hid (And.intro hEa LSA)
      have HX := S.hid (bb HX.out (bel_alloc q15 (.cells #[.int .u16 x, .int .u16 pl] 26)))
      clear hE hEa LSA LSZ
      go_wp2_with fail
      refine hps.mono ?_
      rintro e q16 ⟨rfl, hd, t⟩
      obtain ⟨hE, b6⟩ := HA.out.1.putD HA.out.2 hd t
      have LSZ : Hid (BB ≤ q16.heap.size) := Nat.le_trans HA.out.2 b6.size
      have HX := S.hid (HX.out.trans (b6.mono HS.out))
      clear hps hd t b6 HA c0
      have hdo := do_w 51 rfl BB g bd br bm [x, y, z, x, pl] [] mB (cc hx (cc hy (cc hz (cc hx (cc hpl cnil))))) ht0 q16.drew hE.drew LSZ.out
      rw [show fl 51 [x, y, z, x, pl] [] = 0 from rfl, show xD 51 [x, y, z, x, pl] [] mB = [x, y, z] from rfl, show xR 51 [x, y, z, x, pl] [] = [] from rfl, show xM 51 [x, y, z, x, pl] [] mB = m1 from HM1.out] at hdo
      have s0 := hE.drew.cells
      clear hE
      go_wp2_with fail
      go_region_held (fun w' => w'.cell? ⟨g, 0, none⟩ = some (.pointer (some ⟨bd, 0, none⟩)) ∧ w'.cell? ⟨g, 1, none⟩ = some (.pointer (some ⟨br, 0, none⟩)) ∧ w'.cell? ⟨g, 2, none⟩ = some (.pointer (some ⟨bm, 0, none⟩)))
        (first | (with_reducible exact s0) | (with_reducible exact s1))
        (first | (go_at_call 12; refine hdo.mono ?_; rintro e q17 ⟨rfl, hE, b6⟩; have s1 := hE.cells))
      have HX := S.hid (HX.out.trans (Below.mono (⟨b6.os, b6.tape, b6.output, b6.size, b6.block⟩ : Below BB q16 q17) HS.out))
      have LSZ' : Hid (BB ≤ q17.heap.size) := Nat.le_trans LSZ.out b6.size
      clear hdo s0 s1 b6 LSZ
      have LSZ := LSZ'
      clear LSZ'
      obtain ⟨FB, hMB⟩ := hE.mem
      have hw1 := hMB.wf
      clear hMB FB HM1 ht0
      obtain ⟨s, hsv⟩ : ∃ s, IntKind.u16.wrap (x + y) = s := ⟨_, rfl⟩
      have hse : s = (x + y) % 65536 := by rw [← hsv, M.u16_wrap]
      have hs : C.C s := ⟨by omega, by omega⟩
      obtain ⟨m2, hm2⟩ : ∃ m2, M.sc m1 pl ((M.cl m1 pl + y) % 65536) = m2 := ⟨_, rfl⟩
      have hm2' := hm2
      rw [HK1.out.2, ← hse] at hm2'
      have k2 : m2.tones = [] ∧ m2.cyc = 0 := by rw [← hm2']; exact ⟨(sc_keep m1 pl s (by omega) (by omega)).1.trans HK1.out.1.1, (sc_keep m1 pl s (by omega) (by omega)).2.trans HK1.out.1.2⟩
      have ht2 : m2.tones.length ≤ 999000 := by rw [k2.1]; decide
      have hc2 : M.cl m2 pl = s := by rw [← hm2']; exact cl_sc m1 hw1 pl s hpb.1 hpb.2 hs.1 hs.2
      have HM2 := S.hid hm2
      have HK2 := S.hid (And.intro k2 hc2)
      clear hm2 hm2' k2 hc2 hw1 HK1 hse
      have hEa := hE.below (bel_alloc q17 (.cells #[.int .u16 y, .int .u16 pl] 26))
      have hps := S.dpush_yes bd [x, y, z] [y, pl] (some ⟨q17.heap.size, 0, none⟩) 2 (q17.alloc (.cells #[.int .u16 y, .int .u16 pl] 26)) hEa.d (sl_block S.hU _ _ 26 _ (heap_alloc_new q17 _)) (by simp)
      simp only [List.length_cons, List.length_nil, Nat.reduceAdd, List.cons_append, List.nil_append] at hps
      have LSA : BB ≤ (q17.alloc (.cells #[.int .u16 y, .int .u16 pl] 26)).heap.size := Nat.le_trans LSZ.out (bel_alloc q17 _).size
      have c0 := hE.cells.1
      have HA := S.hid (And.intro hEa LSA)
      have HX := S.hid (bb HX.out (bel_alloc q17 (.cells #[.int .u16 y, .int .u16 pl] 26)))
      clear hE hEa LSA LSZ
      go_wp2_with fail
      refine hps.mono ?_
      rintro e q18 ⟨rfl, hd, t⟩
      obtain ⟨hE, b6⟩ := HA.out.1.putD HA.out.2 hd t
      have LSZ : Hid (BB ≤ q18.heap.size) := Nat.le_trans HA.out.2 b6.size
      have HX := S.hid (HX.out.trans (b6.mono HS.out))
      clear hps hd t b6 HA c0
      have hdo := do_w 54 rfl BB g bd br bm [x, y, z, y, pl] [] m1 (cc hx (cc hy (cc hz (cc hy (cc hpl cnil))))) ht1 q18.drew hE.drew LSZ.out
      rw [show fl 54 [x, y, z, y, pl] [] = 0 from rfl, show xD 54 [x, y, z, y, pl] [] m1 = [x, y, z] from rfl, show xR 54 [x, y, z, y, pl] [] = [] from rfl, show xM 54 [x, y, z, y, pl] [] m1 = m2 from HM2.out] at hdo
      have s0 := hE.drew.cells
      clear hE
      go_wp2_with fail
      go_region_held (fun w' => w'.cell? ⟨g, 0, none⟩ = some (.pointer (some ⟨bd, 0, none⟩)) ∧ w'.cell? ⟨g, 1, none⟩ = some (.pointer (some ⟨br, 0, none⟩)) ∧ w'.cell? ⟨g, 2, none⟩ = some (.pointer (some ⟨bm, 0, none⟩)))
        (first | (with_reducible exact s0) | (with_reducible exact s1))
        (first | (go_at_call 12; refine hdo.mono ?_; rintro e q19 ⟨rfl, hE, b6⟩; have s1 := hE.cells))
      have HX := S.hid (HX.out.trans (Below.mono (⟨b6.os, b6.tape, b6.output, b6.size, b6.block⟩ : Below BB q18 q19) HS.out))
      have LSZ' : Hid (BB ≤ q19.heap.size) := Nat.le_trans LSZ.out b6.size
      clear hdo s0 s1 b6 LSZ
      have LSZ := LSZ'
      clear LSZ'
      have hEa := hE.below (bel_alloc q19 (.cells #[.int .u16 pl] 26))
      have hps := S.dpush_yes bd [x, y, z] [pl] (some ⟨q19.heap.size, 0, none⟩) 1 (q19.alloc (.cells #[.int .u16 pl] 26)) hEa.d (sl_block S.hU _ _ 26 _ (heap_alloc_new q19 _)) (by simp)
      simp only [List.length_cons, List.length_nil, Nat.reduceAdd, List.cons_append, List.nil_append] at hps
      have LSA : BB ≤ (q19.alloc (.cells #[.int .u16 pl] 26)).heap.size := Nat.le_trans LSZ.out (bel_alloc q19 _).size
      have c0 := hE.cells.1
      have HA := S.hid (And.intro hEa LSA)
      have HX := S.hid (bb HX.out (bel_alloc q19 (.cells #[.int .u16 pl] 26)))
      clear hE hEa LSA LSZ
      go_wp2_with fail
      refine hps.mono ?_
      rintro e q20 ⟨rfl, hd, t⟩
      obtain ⟨hE, b6⟩ := HA.out.1.putD HA.out.2 hd t
      have LSZ : Hid (BB ≤ q20.heap.size) := Nat.le_trans HA.out.2 b6.size
      have HX := S.hid (HX.out.trans (b6.mono HS.out))
      clear hps hd t b6 HA c0
      have hdo := do_w 50 rfl BB g bd br bm [x, y, z, pl] [] m2 (cc hx (cc hy (cc hz (cc hpl cnil)))) ht2 q20.drew hE.drew LSZ.out
      rw [show fl 50 [x, y, z, pl] [] = 0 from rfl, show xD 50 [x, y, z, pl] [] m2 = [x, y, z, (M.cl m2 pl)] from rfl, show xR 50 [x, y, z, pl] [] = [] from rfl, show xM 50 [x, y, z, pl] [] m2 = m2 from rfl] at hdo
      have s0 := hE.drew.cells
      clear hE
      go_wp2_with fail
      go_region_held (fun w' => w'.cell? ⟨g, 0, none⟩ = some (.pointer (some ⟨bd, 0, none⟩)) ∧ w'.cell? ⟨g, 1, none⟩ = some (.pointer (some ⟨br, 0, none⟩)) ∧ w'.cell? ⟨g, 2, none⟩ = some (.pointer (some ⟨bm, 0, none⟩)))
        (first | (with_reducible exact s0) | (with_reducible exact s1))
        (first | (go_at_call 12; refine hdo.mono ?_; rintro e q21 ⟨rfl, hE, b6⟩; have s1 := hE.cells))
      have HX := S.hid (HX.out.trans (Below.mono (⟨b6.os, b6.tape, b6.output, b6.size, b6.block⟩ : Below BB q20 q21) HS.out))
      have LSZ' : Hid (BB ≤ q21.heap.size) := Nat.le_trans LSZ.out b6.size
      clear hdo s0 s1 b6 LSZ
      have LSZ := LSZ'
      clear LSZ'
      rw [HK2.out.2] at hE
      clear HM2 ht1
      have hdp := S.dpop bd [x, y, z] s q21 hE.d
      have c0 := hE.cells.1
      have HE := S.hid hE
      clear hE
      go_wp2_with fail
      refine hdp.mono ?_
      rintro e q22 ⟨rfl, hd, t⟩
      obtain ⟨hE, b6⟩ := HE.out.putD LSZ.out hd t
      have HX := S.hid (HX.out.trans (b6.mono HS.out))
      have LSZ' : Hid (BB ≤ q22.heap.size) := Nat.le_trans LSZ.out b6.size
      clear LSZ HE hdp hd t b6 c0
      have LSZ := LSZ'
      clear LSZ'
      obtain ⟨FB, hMB⟩ := hE.mem
      have hw2 := hMB.wf
      clear hMB FB
      obtain ⟨col, hcv⟩ : ∃ col, x.tmod 64 = col := ⟨_, rfl⟩
      obtain ⟨row, hrv⟩ : ∃ row, y.tmod 48 = row := ⟨_, rfl⟩
      have hcb : 0 ≤ col ∧ col < 64 := by rw [← hcv]; exact ⟨Int.tmod_nonneg 64 hx.1, Int.tmod_lt_of_pos x (by decide)⟩
      have hrb : 0 ≤ row ∧ row < 48 := by rw [← hrv]; exact ⟨Int.tmod_nonneg 48 hy.1, Int.tmod_lt_of_pos y (by decide)⟩
      have hcol : C.C col := ⟨by omega, by omega⟩
      have hrow : C.C row := ⟨by omega, by omega⟩
      obtain ⟨r64, hr1⟩ : ∃ r64, IntKind.u16.wrap (64 * row) = r64 := ⟨_, rfl⟩
      obtain ⟨r65, hr2⟩ : ∃ r65, IntKind.u16.wrap (49152 + r64) = r65 := ⟨_, rfl⟩
      obtain ⟨ad, hr3⟩ : ∃ ad, IntKind.u16.wrap (r65 + col) = ad := ⟨_, rfl⟩
      have hade : ad = 49152 + 64 * row + col := by rw [← hr3, ← hr2, ← hr1, M.u16_wrap, M.u16_wrap, M.u16_wrap]; omega
      have had : C.C ad := ⟨by omega, by omega⟩
      obtain ⟨zz, hzv⟩ : ∃ zz, z.tmod 256 = zz := ⟨_, rfl⟩
      have hzz : z % 256 = zz := by rw [← hzv, Int.tmod_eq_emod_of_nonneg hz.1]
      obtain ⟨m3, hm3⟩ : ∃ m3, M.plt m2 col row z = m3 := ⟨_, rfl⟩
      have k3 : m3.tones = [] ∧ m3.cyc = 0 := by rw [← hm3]; exact ⟨(plt_keep m2 col row z hcb.1 hrb.1).1.trans HK2.out.1.1, (plt_keep m2 col row z hcb.1 hrb.1).2.trans HK2.out.1.2⟩
      have ht3 : m3.tones.length ≤ 999000 := by rw [k3.1]; decide
      have hl3 : M.ld m3 ad = zz := by rw [← hm3, hade, ld_plt m2 hw2 col row z hcb.1 hcb.2 hrb.1 hrb.2, hzz]
      have HM3 := S.hid hm3
      have HK3 := S.hid (And.intro k3 hl3)
      clear hm3 k3 hl3 hw2 hade hzz HK2 hpl hpb
      have hEa := hE.below (bel_alloc q22 (.cells #[.int .u16 col, .int .u16 row, .int .u16 z] 26))
      have hps := S.dpush_yes bd [x, y, z] [col, row, z] (some ⟨q22.heap.size, 0, none⟩) 3 (q22.alloc (.cells #[.int .u16 col, .int .u16 row, .int .u16 z] 26)) hEa.d (sl_block S.hU _ _ 26 _ (heap_alloc_new q22 _)) (by simp)
      simp only [List.length_cons, List.length_nil, Nat.reduceAdd, List.cons_append, List.nil_append] at hps
      have LSA : BB ≤ (q22.alloc (.cells #[.int .u16 col, .int .u16 row, .int .u16 z] 26)).heap.size := Nat.le_trans LSZ.out (bel_alloc q22 _).size
      have c0 := hE.cells.1
      have HA := S.hid (And.intro hEa LSA)
      have HX := S.hid (bb HX.out (bel_alloc q22 (.cells #[.int .u16 col, .int .u16 row, .int .u16 z] 26)))
      clear hE hEa LSA LSZ
      go_wp2_with fail
      refine hps.mono ?_
      rintro e q23 ⟨rfl, hd, t⟩
      obtain ⟨hE, b6⟩ := HA.out.1.putD HA.out.2 hd t
      have LSZ : Hid (BB ≤ q23.heap.size) := Nat.le_trans HA.out.2 b6.size
      have HX := S.hid (HX.out.trans (b6.mono HS.out))
      clear hps hd t b6 HA c0
      have hdo := do_w 60 rfl BB g bd br bm [x, y, z, col, row, z] [] m2 (cc hx (cc hy (cc hz (cc hcol (cc hrow (cc hz cnil)))))) ht2 q23.drew hE.drew LSZ.out
      rw [show fl 60 [x, y, z, col, row, z] [] = 0 from rfl, show xD 60 [x, y, z, col, row, z] [] m2 = [x, y, z] from rfl, show xR 60 [x, y, z, col, row, z] [] = [] from rfl, show xM 60 [x, y, z, col, row, z] [] m2 = m3 from HM3.out] at hdo
      have s0 := hE.drew.cells
      clear hE
      go_wp2_with fail
      go_region_held (fun w' => w'.cell? ⟨g, 0, none⟩ = some (.pointer (some ⟨bd, 0, none⟩)) ∧ w'.cell? ⟨g, 1, none⟩ = some (.pointer (some ⟨br, 0, none⟩)) ∧ w'.cell? ⟨g, 2, none⟩ = some (.pointer (some ⟨bm, 0, none⟩)))
        (first | (with_reducible exact s0) | (with_reducible exact s1))
        (first | (go_at_call 12; refine hdo.mono ?_; rintro e q24 ⟨rfl, hE, b6⟩; have s1 := hE.cells))
      have HX := S.hid (HX.out.trans (Below.mono (⟨b6.os, b6.tape, b6.output, b6.size, b6.block⟩ : Below BB q23 q24) HS.out))
      have LSZ' : Hid (BB ≤ q24.heap.size) := Nat.le_trans LSZ.out b6.size
      clear hdo s0 s1 b6 LSZ
      have LSZ := LSZ'
      clear LSZ'
      have hEa := hE.below (bel_alloc q24 (.cells #[.int .u16 ad] 26))
      have hps := S.dpush_yes bd [x, y, z] [ad] (some ⟨q24.heap.size, 0, none⟩) 1 (q24.alloc (.cells #[.int .u16 ad] 26)) hEa.d (sl_block S.hU _ _ 26 _ (heap_alloc_new q24 _)) (by simp)
      simp only [List.length_cons, List.length_nil, Nat.reduceAdd, List.cons_append, List.nil_append] at hps
      have LSA : BB ≤ (q24.alloc (.cells #[.int .u16 ad] 26)).heap.size := Nat.le_trans LSZ.out (bel_alloc q24 _).size
      have c0 := hE.cells.1
      have HA := S.hid (And.intro hEa LSA)
      have HX := S.hid (bb HX.out (bel_alloc q24 (.cells #[.int .u16 ad] 26)))
      clear hE hEa LSA LSZ
      go_wp2_with fail
      refine hps.mono ?_
      rintro e q25 ⟨rfl, hd, t⟩
      obtain ⟨hE, b6⟩ := HA.out.1.putD HA.out.2 hd t
      have LSZ : Hid (BB ≤ q25.heap.size) := Nat.le_trans HA.out.2 b6.size
      have HX := S.hid (HX.out.trans (b6.mono HS.out))
      clear hps hd t b6 HA c0
      have hdo := do_w 52 rfl BB g bd br bm [x, y, z, ad] [] m3 (cc hx (cc hy (cc hz (cc had cnil)))) ht3 q25.drew hE.drew LSZ.out
      rw [show fl 52 [x, y, z, ad] [] = 0 from rfl, show xD 52 [x, y, z, ad] [] m3 = [x, y, z, (M.ld m3 ad)] from rfl, show xR 52 [x, y, z, ad] [] = [] from rfl, show xM 52 [x, y, z, ad] [] m3 = m3 from rfl] at hdo
      have s0 := hE.drew.cells
      clear hE
      go_wp2_with fail
      go_region_held (fun w' => w'.cell? ⟨g, 0, none⟩ = some (.pointer (some ⟨bd, 0, none⟩)) ∧ w'.cell? ⟨g, 1, none⟩ = some (.pointer (some ⟨br, 0, none⟩)) ∧ w'.cell? ⟨g, 2, none⟩ = some (.pointer (some ⟨bm, 0, none⟩)))
        (first | (with_reducible exact s0) | (with_reducible exact s1))
        (first | (go_at_call 12; refine hdo.mono ?_; rintro e q26 ⟨rfl, hE, b6⟩; have s1 := hE.cells))
      have HX := S.hid (HX.out.trans (Below.mono (⟨b6.os, b6.tape, b6.output, b6.size, b6.block⟩ : Below BB q25 q26) HS.out))
      have LSZ' : Hid (BB ≤ q26.heap.size) := Nat.le_trans LSZ.out b6.size
      clear hdo s0 s1 b6 LSZ
      have LSZ := LSZ'
      clear LSZ'
      rw [HK3.out.2] at hE
      clear HM3 ht2
      have hdp := S.dpop bd [x, y, z] zz q26 hE.d
      have c0 := hE.cells.1
      have HE := S.hid hE
      clear hE
      go_wp2_with fail
      refine hdp.mono ?_
      rintro e q27 ⟨rfl, hd, t⟩
      obtain ⟨hE, b6⟩ := HE.out.putD LSZ.out hd t
      have HX := S.hid (HX.out.trans (b6.mono HS.out))
      have LSZ' : Hid (BB ≤ q27.heap.size) := Nat.le_trans LSZ.out b6.size
      clear LSZ HE hdp hd t b6 c0
      have LSZ := LSZ'
      clear LSZ'
      obtain ⟨FB, hMB⟩ := hE.mem
      have hw3 := hMB.wf
      clear hMB FB had hcb hrb hcol hrow
      obtain ⟨yv, hyv⟩ : ∃ yv, IntKind.u8.wrap y = yv := ⟨_, rfl⟩
      have hye : y % 256 = yv := by rw [← hyv, M.u8_wrap]
      obtain ⟨m4, hm4⟩ : ∃ m4, M.st (M.sc m3 65284 x) 65286 (M.b8 y) = m4 := ⟨_, rfl⟩
      have k4 : m4.tones = [(0, x, yv)] := by rw [← hm4, tone_is m3 hw3 x y hx.1 hx.2, HK3.out.1.1, HK3.out.1.2, hye]; rfl
      have HM4 := S.hid hm4
      have HK4 := S.hid k4
      clear hm4 k4 hw3 hye HK3
      have hEa := hE.below (bel_alloc q27 (.cells #[.int .u16 x, .int .u16 y] 26))
      have hps := S.dpush_yes bd [x, y, z] [x, y] (some ⟨q27.heap.size, 0, none⟩) 2 (q27.alloc (.cells #[.int .u16 x, .int .u16 y] 26)) hEa.d (sl_block S.hU _ _ 26 _ (heap_alloc_new q27 _)) (by simp)
      simp only [List.length_cons, List.length_nil, Nat.reduceAdd, List.cons_append, List.nil_append] at hps
      have LSA : BB ≤ (q27.alloc (.cells #[.int .u16 x, .int .u16 y] 26)).heap.size := Nat.le_trans LSZ.out (bel_alloc q27 _).size
      have c0 := hE.cells.1
      have HA := S.hid (And.intro hEa LSA)
      have HX := S.hid (bb HX.out (bel_alloc q27 (.cells #[.int .u16 x, .int .u16 y] 26)))
      clear hE hEa LSA LSZ
      go_wp2_with fail
      refine hps.mono ?_
      rintro e q28 ⟨rfl, hd, t⟩
      obtain ⟨hE, b6⟩ := HA.out.1.putD HA.out.2 hd t
      have LSZ : Hid (BB ≤ q28.heap.size) := Nat.le_trans HA.out.2 b6.size
      have HX := S.hid (HX.out.trans (b6.mono HS.out))
      clear hps hd t b6 HA c0
      have hdo := do_w 62 rfl BB g bd br bm [x, y, z, x, y] [] m3 (cc hx (cc hy (cc hz (cc hx (cc hy cnil))))) ht3 q28.drew hE.drew LSZ.out
      rw [show fl 62 [x, y, z, x, y] [] = 0 from rfl, show xD 62 [x, y, z, x, y] [] m3 = [x, y, z] from rfl, show xR 62 [x, y, z, x, y] [] = [] from rfl, show xM 62 [x, y, z, x, y] [] m3 = m4 from HM4.out] at hdo
      have s0 := hE.drew.cells
      clear hE
      go_wp2_with fail
      go_region_held (fun w' => w'.cell? ⟨g, 0, none⟩ = some (.pointer (some ⟨bd, 0, none⟩)) ∧ w'.cell? ⟨g, 1, none⟩ = some (.pointer (some ⟨br, 0, none⟩)) ∧ w'.cell? ⟨g, 2, none⟩ = some (.pointer (some ⟨bm, 0, none⟩)))
        (first | (with_reducible exact s0) | (with_reducible exact s1))
        (first | (go_at_call 12; refine hdo.mono ?_; rintro e q29 ⟨rfl, hE, b6⟩; have s1 := hE.cells))
      have HX := S.hid (HX.out.trans (Below.mono (⟨b6.os, b6.tape, b6.output, b6.size, b6.block⟩ : Below BB q28 q29) HS.out))
      have LSZ' : Hid (BB ≤ q29.heap.size) := Nat.le_trans LSZ.out b6.size
      clear hdo s0 s1 b6 LSZ
      have LSZ := LSZ'
      clear LSZ'
      obtain ⟨F4, hM4⟩ := hE.mem
      have htn := M.tones_any bm q29 hM4 (by rw [HK4.out]; simp)
      rw [HK4.out] at htn
      have c2 := hE.cells.2.2
      clear hE hM4 LSZ HK4 HM4 ht3
      go_wp2_with fail
      refine htn.mono ?_
      rintro e q30 ⟨u, rfl, hu, b6⟩
      have HX := S.hid (bb HX.out b6)
      obtain ⟨g4, cap4, rfl⟩ := S.own_pos hu (by simp)
      have hcl : ∀ j v, (M.tc [(0, x, yv)])[j]? = some v → q30.cell? ((⟨g4, 0, none⟩ : Addr).add j) = some v := hu.cells (g := g4) rfl
      have t0 := hcl 0 (.int .i64 0) rfl
      have t1 := hcl 1 (.int .u16 x) rfl
      have t2 := hcl 2 (.int .u8 yv) rfl
      rw [Addr.add_lit] at t0 t1 t2
      simp only [Nat.zero_add, Nat.add_zero] at t0 t1 t2
      clear htn c2 b6 hu hcl
      simp only [List.length_cons, List.length_nil, Nat.reduceAdd]
      go_wp2
      go_ret
      exact ⟨rfl, HX.out⟩
end Go.Proofs.YtgponcjjnjpfkaaGreat.L
