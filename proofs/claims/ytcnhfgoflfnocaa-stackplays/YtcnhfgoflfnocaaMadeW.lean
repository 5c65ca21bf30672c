import Derived.Test.YtcnhfgoflfnocaaMade
/-! The law's made, walked. -/
namespace Go.Proofs.Ytcnhfgoflfnocaa
open Go.RowKit
open Go.Proofs
set_option linter.unusedVariables false
set_option linter.unusedSimpArgs false
theorem Ls.sl {α : Type} {e : α → List Value} {s : Nat} {W : World} {p : Option Addr} {c : Nat} {l : List α} (h : Ls e s W (.slice p l.length c) l) : Sl e s W p l := by
  rcases h with ⟨e1, e2⟩ | ⟨x, c, e1, _, hs⟩
  · rw [e2]; intro i a hi; simp at hi
  · simp only [Value.slice.injEq] at e1; rw [e1.1]; exact hs
theorem KT.bp {B b i : Nat} {W : World} {c : Array Value} {x : Nat × Nat} (v : Value) (h : W.heap[b]? = some (.cells c 70 x)) (hB : B ≤ b) : KT (fun t => t = 70) B W (W.setCell ⟨b, i, none⟩ v) := KT.at ((Tc.refl (fun k => k = b) W).setCell b i rfl v) h rfl hB
def PE (lo hi B : Nat) (W : World) (bp n : Nat) : Prop := ∃ bd br be bq gv gr ev qv vs ws D R, PX lo hi B W bp bd br be bq gv gr ev qv vs ws D R n
section
variable {lo hi B : Nat} {bp bd br be bq : Nat} {gv gr ev qv : Value} {vs ws : List Value} {D : List Int} {R : List (Int × Int)} {n : Nat}
set_option maxHeartbeats 4000000
set_option maxRecDepth 100000
theorem made_any (v u : Value) (l : List Int) (m : List (Int × Int)) (hl : l.length * 2 + 4096 ≤ room) (hm : m.length * 16 + 4096 ≤ room) (w : World) (h : PX lo hi B w bp bd br be bq gv gr ev qv vs ws D R n) (nv : ∀ W' : World, (∀ k, k < w.heap.size → k ≠ bp → W'.heap[k]? = w.heap[k]?) → Ls eU 1 W' v l) (nu : ∀ W' : World, (∀ k, k < w.heap.size → k ≠ bp → W'.heap[k]? = w.heap[k]?) → Ls eK 2 W' u m) (hh : hi ≤ w.heap.size) :
    Calls Try.prog 41 #[.pointer (some ⟨bp, 0, none⟩), v, u] w fun e w' => e = .returned (.bool true) ∧ PE lo hi B w' bp n ∧ KT (fun t => t = 70) B w w' := by
  have h1 := nv w fun _ _ _ => rfl
  have h2 := nu w fun _ _ _ => rfl
  have NV := hid nv
  have NU := hid nu
  clear nv nu
  have hc := ownU v l hl w h1
  have hk : ∀ w1, Below w.heap.size w w1 → Calls Try.prog 33 #[u] w1 fun e w' => ∃ g cap, e = .returned (.slice (some ⟨g, 0, none⟩) m.length cap) ∧ CK w' w1.heap.size g cap m ∧ Below w1.heap.size w1 w' := fun w1 b => ownK u m hm w1 (h2.below b)
  have HK := hid hk
  have HP := hid h
  have H1 := hid h1
  have H2 := hid h2
  have HL := hid hl
  have HM := hid hm
  have hll : l.length ≤ 140737488355328 := by unfold room at hl; omega
  have hml : m.length ≤ 140737488355328 := by unfold room at hm; omega
  obtain ⟨pv, cv, rfl, _, _⟩ := h1.ex
  obtain ⟨pu, cu, rfl, _, _⟩ := h2.ex
  clear h h1 h2 hk hl hm
  go_enter Try.func41, Try.ntmps41
  go_wp2_with fail
  refine hc.mono ?_
  rintro e w1 ⟨gc, cc, rfl, C1, b1⟩
  have hk1 := HK.out w1 b1
  have HC1 := hid C1
  have HB1 := hid b1
  clear hc C1 b1 HK
  go_wp2_with fail
  refine hk1.mono ?_
  rintro e w2 ⟨gk, ck, rfl, K2, b2⟩
  have hB2 : Below w.heap.size w w2 := HB1.out.trans (b2.mono HB1.out.size)
  have C2 : CU w2 w.heap.size gc cc l := own_kept HC1.out fun y _ hy => b2.block y hy
  have K2' : CK w2 w.heap.size gk ck m := own_mono K2 HB1.out.size
  have hst := stacks_v (some ⟨gc, 0, none⟩) (some ⟨gk, 0, none⟩) cc ck l m (by have := HL.out; omega) (by have := HM.out; omega) w2 C2.lsl K2'.lsl
  have HC2 := hid C2
  have HK2 := hid K2'
  have HB2 := hid hB2
  clear hk1 K2 b2 C2 K2' hB2 HC1 HB1
  go_wp2_with fail
  refine hst.mono ?_
  rintro e w3 ⟨vd, vr, ve, rfl, b3, hs3⟩
  have hB3 : Below w.heap.size w w3 := HB2.out.trans (b3.mono HB2.out.size)
  have C3 : CU w3 w.heap.size gc cc l := own_kept HC2.out fun y _ hy => b3.block y hy
  have K3 : CK w3 w.heap.size gk ck m := own_kept HK2.out fun y _ hy => b3.block y hy
  have hN3 : NS2 w.heap.size l m vd vr ve w3 := by
    rcases hs3 with ⟨c, b1, b2, e1, e2, e3, g1, g2, l1, l2⟩ | hs3
    · exact .inl ⟨c, b1, b2, e1, e2, e3, g1, g2, Nat.le_trans HB2.out.size l1, Nat.le_trans HB2.out.size l2⟩
    · exact .inr hs3
  have hw := whole_any gc cc gk ck _ _ _ _ l m HL.out HM.out w3 C3 K3 (H1.out.below hB3) (H2.out.below hB3)
  have D3 := hid (show ∀ q, MD w (w3.drewN q) gc cc gk ck l m (NS2 w.heap.size l m vd vr ve) from fun q => ⟨⟨hB3.os, hB3.tape, hB3.output, hB3.size, hB3.block⟩, ⟨mU l, mU_len l, C3⟩, ⟨mK m, mK_len m, K3⟩, hN3⟩)
  clear hst b3 hs3 hB3 C3 K3 hN3 HC2 HK2 HB2
  go_wp2_with fail
  refine hw.mono ?_
  rintro e w4 ⟨rfl, q, hq⟩
  have D4 := hid (show MD w w4 gc cc gk ck l m (NS2 w.heap.size l m vd vr ve) by rw [hq]; exact D3.out q)
  clear hw hq D3
  go_wp2
  go_loopw [13] (fun j wr => ∃ k : Nat, k ≤ l.length ∧ j = .int .i64 (k : Int) ∧ MD w wr gc cc gk ck l m (NS2 w.heap.size l m vd vr ve)) (fun j _ => l.length - (intOf j).toNat)
  case atStart => exact ⟨0, by omega, rfl, D4.out⟩
  case round =>
    obtain ⟨k, hk, rfl, hD⟩ := hrel
    by_cases hlt : k < l.length
    · as_aux_lemma =>
        have i1 : decide ((k : Int) < (l.length : Int)) = true := decide_eq_true (by omega)
        have i2 : (k : Int) < (l.length : Int) := by omega
        obtain ⟨⟨y, x1⟩, z1, hD2⟩ := hD.setC (NS2.ok _ _ _ _ _ _) k hlt 1
        have HD2 := hid hD2
        clear hD hD2 D4 HP H1 H2
        go_wp2
        go_roundw
        case rel => exact ⟨k + 1, by omega, by go_num, HD2.out⟩
        case measure => first | (simp [intOf]; done) | (simp [intOf]; omega)
    · obtain rfl : k = l.length := by omega
      have i1 : decide ((l.length : Int) < (l.length : Int)) = false := decide_eq_false (by omega)
      have D5 := hid hD
      clear hD D4
      go_wp2
      go_loopw [14] (fun j wr => ∃ k : Nat, k ≤ m.length ∧ j = .int .i64 (k : Int) ∧ MD w wr gc cc gk ck l m (NS2 w.heap.size l m vd vr ve)) (fun j _ => m.length - (intOf j).toNat)
      case atStart => exact ⟨0, by omega, rfl, D5.out⟩
      case round =>
        obtain ⟨k, hk, rfl, hD⟩ := hrel
        by_cases hlt : k < m.length
        · as_aux_lemma =>
            have i1 : decide ((k : Int) < (m.length : Int)) = true := decide_eq_true (by omega)
            have i2 : (k : Int) < (m.length : Int) := by omega
            obtain ⟨⟨⟨y, x1⟩, y2, x2⟩, ⟨z1, z2⟩, hD2⟩ := hD.setK (NS2.ok _ _ _ _ _ _) k hlt 99 0
            have HD2 := hid hD2
            clear hD hD2 D5 HP H1 H2
            go_wp2
            go_roundw
            case rel => exact ⟨k + 1, by omega, by go_num, HD2.out⟩
            case measure => first | (simp [intOf]; done) | (simp [intOf]; omega)
        · obtain rfl : k = m.length := by omega
          have i1 : decide ((m.length : Int) < (m.length : Int)) = false := decide_eq_false (by omega)
          have hmay := may_any pv pu cv cu l m (by have := HL.out; omega) (by have := HM.out; omega) wr (H2.out.below hD.bel).sl
          have P6 := HP.out.below hD.bel
          have HD := hid hD
          have HP6 := hid P6
          have hBw : B ≤ w.heap.size := Nat.le_trans HP.out.hbp (Nat.le_of_lt (lt_of HP.out.blk))
          rcases hD.s with ⟨cm, b1, b2, e1, e2, rfl, g1, g2, l1, l2⟩ | ⟨cm, rfl, rfl, rfl⟩
          · rw [cm] at hmay
            obtain rfl : vd = .pointer (some ⟨b1, 0, none⟩) := e1
            obtain rfl : vr = .pointer (some ⟨b2, 0, none⟩) := e2
            have hlen : l.length ≤ 256 ∧ m.length ≤ 128 := by
              rw [mayS, Bool.and_eq_true, Bool.and_eq_true, decide_eq_true_eq, decide_eq_true_eq] at cm
              exact cm.2
            have hbp : bp < w.heap.size := lt_of HP.out.blk
            have hws := hD.bel.size
            have s0 := cell_of wr bp 0 _ 70 _ P6.blk rfl
            have f0 := frozen_of wr bp 0 _ 70 P6.blk
            obtain ⟨w7, hw7⟩ : ∃ w7, wr.setCell ⟨bp, 0, none⟩ (.pointer (some ⟨b1, 0, none⟩)) = w7 := ⟨_, rfl⟩
            have q7 := setCell_heap wr bp 0 _ 70 (.pointer (some ⟨b1, 0, none⟩)) P6.blk
            rw [hw7] at q7
            have s1 := cell_of w7 bp 1 _ 70 _ q7 rfl
            have f1 := frozen_of w7 bp 1 _ 70 q7
            obtain ⟨w8, hw8⟩ : ∃ w8, w7.setCell ⟨bp, 1, none⟩ (.pointer (some ⟨b2, 0, none⟩)) = w8 := ⟨_, rfl⟩
            have q8 := setCell_heap w7 bp 1 _ 70 (.pointer (some ⟨b2, 0, none⟩)) q7
            rw [hw8] at q8
            have k8 : KT (fun t => t = 70) B wr w8 := by
              rw [← hw8, ← hw7]
              rw [← hw7] at q7
              exact (KT.bp _ P6.blk P6.hbp).trans (KT.bp _ q7 P6.hbp)
            have o8 : ∀ k, k ≠ bp → w8.heap[k]? = wr.heap[k]? := fun k hk => by rw [← hw8, ← hw7]; exact (setCell_other _ _ _ _ _ hk).trans (setCell_other _ _ _ _ _ hk)
            have z8 : w8.heap.size = wr.heap.size := by rw [← hw8, ← hw7, setCell_size, setCell_size]
            have hx8 := NV.out w8 fun k hk hn => (o8 k hn).trans (hD.bel.block k hk)
            have hy8 := NU.out w8 fun k hk hn => (o8 k hn).trans (hD.bel.block k hk)
            have hr0 := own_empty w8 32 1
            have hb0 : Below w8.heap.size w8 (w8.alloc (.cells #[] 32)) := (Below.refl _ _).alloc (Nat.le_refl _) _
            have hs0 := (hx8.below hb0).cs hU (by omega) oneU
            have HO8 := hid o8
            have HZ8 := hid z8
            have HY8 := hid hy8
            have HQ8 := hid q8
            have HK8 := hid k8
            have HG := hid (show HasD wr b1 l ∧ HasR wr b2 m from ⟨g1, g2⟩)
            clear hD P6 D5 cm g1 g2 q7 q8 k8 o8 hx8 hy8 z8
            as_aux_lemma =>
              go_wp2_with fail
              refine hmay.mono ?_
              rintro e w6 ⟨rfl, hw6⟩
              obtain rfl := hw6.symm
              clear hmay
              go_wp2_with (first | (at_builtin; refine wpList_append_row _ rfl _ _ 22 32 _ 1 2 Try.underlying22 info32 rfl (by decide) rfl w8.heap.size _ 0 [] rfl hr0 _ l.length (en eU l) rfl hs0 (by unfold room; omega) (by unfold maxLen; omega) hb0.size ?_))
              intro v10 w10 hr10 hg10
              replace hr10 : RowU w10 w8.heap.size v10 l := by simpa [RowU] using hr10
              have hb10 : Below w8.heap.size w8 w10 := hg10.belowAll (fun g e => (hr0.lt g e).1) hb0 (Nat.le_refl _)
              obtain ⟨p10, c10, rfl⟩ := ex_slice hr10
              obtain ⟨w11, hw11⟩ : ∃ w11, w10.alloc (.cells #[.slice p10 l.length c10] 63) = w11 := ⟨_, rfl⟩
              have b11 : Below w10.heap.size w10 w11 := by rw [← hw11]; exact (Below.refl _ _).alloc (Nat.le_refl _) _
              have q11 : w11.heap[w10.heap.size]? = some (.cells [Value.slice p10 l.length c10].toArray 63 (0, 0)) := by rw [← hw11]; exact heap_alloc_new w10 _
              have hb11 : Below w8.heap.size w8 w11 := hb10.trans (b11.mono hb10.size)
              have hr11 : RowU w11 w8.heap.size (.slice p10 l.length c10) l := own_kept hr10 fun y _ hy => b11.block y hy
              have hr0' := own_empty w11 43 2
              have hb0' : Below w11.heap.size w11 (w11.alloc (.cells #[] 43)) := (Below.refl _ _).alloc (Nat.le_refl _) _
              have hs0' := ((HY8.out.below hb11).below hb0').cs hK (by omega) oneK
              have hz8 := hb10.size
              have HR11 := hid hr11
              have HQ11 := hid q11
              have HB11 := hid hb11
              clear hr0 hb0 hs0 hr10 hg10 hb10 b11 q11 hb11 hr11
              go_wp2_with (first | (at_builtin; refine wpList_append_row _ rfl _ _ 44 43 _ 2 16 Try.underlying44 info43 rfl (by decide) rfl w11.heap.size _ 0 [] rfl hr0' _ m.length (en eK m) rfl hs0' (by unfold room; omega) (by unfold maxLen; omega) hb0'.size ?_))
              intro v13 w13 hr13 hg13
              replace hr13 : RowK w13 w11.heap.size v13 m := by simpa [RowK] using hr13
              have hb13 : Below w11.heap.size w11 w13 := hg13.belowAll (fun g e => (hr0'.lt g e).1) hb0' (Nat.le_refl _)
              obtain ⟨p13, c13, rfl⟩ := ex_slice hr13
              obtain ⟨w14, hw14⟩ : ∃ w14, w13.alloc (.cells #[.slice p13 m.length c13] 66) = w14 := ⟨_, rfl⟩
              have b14 : Below w13.heap.size w13 w14 := by rw [← hw14]; exact (Below.refl _ _).alloc (Nat.le_refl _) _
              have q14 : w14.heap[w13.heap.size]? = some (.cells [Value.slice p13 m.length c13].toArray 66 (0, 0)) := by rw [← hw14]; exact heap_alloc_new w13 _
              have hb1114 : Below w11.heap.size w11 w14 := hb13.trans (b14.mono hb13.size)
              have hb14 : Below w8.heap.size w8 w14 := HB11.out.trans (hb1114.mono HB11.out.size)
              have q14b := (hb14.block bp (by have := HZ8.out; omega)).trans HQ8.out
              have s2 := cell_of w14 bp 2 _ 70 _ q14b rfl
              have f2 := frozen_of w14 bp 2 _ 70 q14b
              obtain ⟨w15, hw15⟩ : ∃ w15, w14.setCell ⟨bp, 2, none⟩ (.pointer (some ⟨w10.heap.size, 0, none⟩)) = w15 := ⟨_, rfl⟩
              have q15 := setCell_heap w14 bp 2 _ 70 (.pointer (some ⟨w10.heap.size, 0, none⟩)) q14b
              rw [hw15] at q15
              have s3 := cell_of w15 bp 3 _ 70 _ q15 rfl
              have f3 := frozen_of w15 bp 3 _ 70 q15
              have hfin : PE lo hi B (w15.setCell ⟨bp, 3, none⟩ (.pointer (some ⟨w13.heap.size, 0, none⟩))) bp n ∧ KT (fun t => t = 70) B w (w15.setCell ⟨bp, 3, none⟩ (.pointer (some ⟨w13.heap.size, 0, none⟩))) := by
                have z8 := HZ8.out
                have hB8 : B ≤ w8.heap.size := by omega
                have k15 : KT (fun t => t = 70) B wr w15 := by
                  refine HK8.out.trans ((KT.of hb14 hB8).trans ?_)
                  rw [← hw15]
                  exact KT.bp _ q14b HP6.out.hbp
                have k16 : KT (fun t => t = 70) B wr (w15.setCell ⟨bp, 3, none⟩ (.pointer (some ⟨w13.heap.size, 0, none⟩))) := k15.trans (KT.bp _ q15 HP6.out.hbp)
                have k1416 : KT (fun t => t = 70) B w14 (w15.setCell ⟨bp, 3, none⟩ (.pointer (some ⟨w13.heap.size, 0, none⟩))) := by
                  rw [← hw15]
                  rw [← hw15] at q15
                  exact (KT.bp _ q14b HP6.out.hbp).trans (KT.bp _ q15 HP6.out.hbp)
                have hs10 := HB11.out.size
                have hs11 := hb1114.size
                have hz10 : w10.heap.size < w11.heap.size := lt_of HQ11.out
                have hz13 : w11.heap.size ≤ w13.heap.size := hb13.size
                have hav : ∀ k, w.heap.size ≤ k → Av lo hi k := fun k hk => .inr (Nat.le_trans hh hk)
                refine ⟨⟨b1, b2, w10.heap.size, w13.heap.size, gv, gr, .slice p10 l.length c10, .slice p13 m.length c13, vs, ws, l, m, ?_⟩, (KT.of HD.out.bel hBw).trans k16⟩
                refine { HP6.out with blk := ?_, d := ⟨k16.typ _ _ _ _ HG.out.1.1 (by decide), HG.out.1.2⟩, hbd := by omega, abd := hav _ l1, r := ⟨k16.typ _ _ _ _ HG.out.2.1 (by decide), HG.out.2.2⟩, hbr := by omega, abr := hav _ l2, e := ⟨k1416.typ _ _ _ _ ((hb1114.block _ hz10).trans HQ11.out) (by decide), k1416.own (own_mono (own_kept HR11.out fun y _ hy => hb1114.block y hy) hB8) (by decide), by omega, hlen.1⟩, abe := hav _ (by omega), ae := fun g e => hav g (by have := (HR11.out.lt g e).1; omega), q := ⟨k1416.typ _ _ _ _ q14 (by decide), k1416.own (own_mono (own_kept hr13 fun y _ hy => b14.block y hy) (by omega)) (by decide), by omega, hlen.2⟩, abq := hav _ (by omega), aq := fun g e => hav g (by have := (hr13.lt g e).1; omega), g := HP6.out.g.kt k16 (by decide) (by decide) (by decide) (by decide) }
                rw [setCell_heap w15 bp 3 _ 70 _ q15]
                rfl
              have HF := hid hfin
              clear hfin hr0' hb0' hs0' hr13 hg13 hb13 b14 q14 hb1114 hb14 q14b q15 HR11 HQ11 HB11 HO8 HY8 HQ8 HK8 HG HP6 HD
              go_wp2
              go_ret
              exact ⟨rfl, HF.out⟩
          · rw [cm] at hmay
            clear hD D5 P6
            go_wp2_with fail
            refine hmay.mono ?_
            rintro e w7 ⟨rfl, hw7⟩
            obtain rfl := hw7.symm
            clear hmay cm
            go_wp2
            go_ret
            exact ⟨rfl, ⟨_, _, _, _, _, _, _, _, _, _, _, _, HP6.out⟩, KT.of HD.out.bel hBw⟩
end
end Go.Proofs.Ytcnhfgoflfnocaa
