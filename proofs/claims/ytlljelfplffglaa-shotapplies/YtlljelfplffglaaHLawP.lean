import Derived.Test.YtlljelfplffglaaHPK
import Derived.Test.YtlljelfplffglaaHDropT
import Derived.Test.YtlljelfplffglaaHLawA
/-! ShotApplies: the walk. -/
namespace Go.Proofs.Ytlljelfplffglaa.H
open Go.RowKit
open Go.Proofs
open Go.Proofs.Ytlljelfplffglaa.K
set_option linter.unusedVariables false
set_option linter.unusedSimpArgs false
set_option maxHeartbeats 4000000
set_option maxRecDepth 100000
theorem own_fz {W : World} {B g n n' cap size : Nat} {e : TypeId} {xs : List Value} (h : W.ownsRow B e size (.slice (some ⟨g, 0, none⟩) n cap) n' xs) (j : Nat) : W.frozen? ⟨g, j, none⟩ = false := by
  rcases h.2 with ⟨e, _⟩ | ⟨g', cap', cur, e, _, hg, _⟩
  · cases e
  · simp only [Value.slice.injEq, Option.some.injEq, Addr.mk.injEq] at e
    obtain ⟨⟨rfl, _⟩, _⟩ := e
    simp [World.frozen?, hg]
theorem blk {g n c i : Nat} (h : (Value.slice (some ⟨g, 0, none⟩) n c).ownBlock = some i) : g = i := by simpa [Value.ownBlock] using h
theorem applies_walk (va vc : Value) (a : List UInt8) (cs : List Ch) (hla : a.length + 3 ≤ room) (hcl : (cs.length + 1) * 24 + 2048 ≤ S.room) (W : World) (ha : Sl W va a) (hc : S.Ls eC 4 W vc cs) :
    Calls Try.prog 6 #[va, vc] W fun r w' => r = .returned (.bool true) ∧ Below W.heap.size W w' := by
  obtain ⟨pa, ca, rfl, _⟩ := ha.ex
  obtain ⟨pc, cc, rfl, hcc, _⟩ := hc.ex
  have HG := hid (And.intro ha hc)
  have hroom : (cs.length : Int) < 281474976710655 := by unfold S.room at hcl; omega
  have hroom2 : cs.length ≤ 281474976710655 := by omega
  have HQ := hid hcl
  clear ha hc hcl
  go_enter Try.func6, Try.ntmps6
  go_wp2_with fail
  refine (fixed_any W).mono ?_
  rintro e w1 ⟨rfl, hb1⟩
  have HB := hid hb1
  have HS1 := hid hb1.size
  clear hb1
  go_wp2_with fail
  refine (roomy_any _ a hla w1 (HG.out.1.below HB.out)).mono ?_
  rintro e w2 ⟨u, rfl, hR, hb2⟩
  have HB := hid (HB.out.trans (hb2.mono HB.out.size))
  obtain ⟨g, cap, rfl, hR0⟩ := id hR
  have HX := hid hR
  have HGL := hid (hR0.lt g rfl)
  have HS2 := hid hb2.size
  clear hb2 hR hR0
  go_wp2_with fail
  refine (changes_any _ cs (by have := HQ.out; omega) w2 (HG.out.2.below HB.out)).mono ?_
  rintro e w3 ⟨gl, cl, rfl, hcap, hL, hb3⟩
  have HB := hid (HB.out.trans (hb3.mono HB.out.size))
  have HX := hid (HX.out.below hb3)
  have HL := hid hL
  have HLL := hid (hL.lt gl rfl)
  have HS3 := hid hb3.size
  clear hb3 hL
  go_wp2_with fail
  refine (apply_any _ _ a cs (by omega) w3 HX.out.sl (ls_chop HL.out)).mono ?_
  rintro e w4 ⟨p1, c1, rfl, hr1, hb4⟩
  have HB := hid (HB.out.trans (hb4.mono HB.out.size))
  have HX := hid (HX.out.below hb4)
  have HL := hid (own_bel HL.out hb4)
  have HR1 := hid hr1
  have HO1 := hid (own_ltN hr1 _ (Nat.le_refl _))
  have HS4 := hid hb4.size
  clear hb4 hr1
  go_wp2_with fail
  refine (rapply_any _ _ a cs (by omega) w4 (HG.out.1.below HB.out) (HG.out.2.below HB.out)).mono ?_
  rintro e w5 ⟨p2, c2, rfl, hr2, hb5⟩
  have HB := hid (HB.out.trans (hb5.mono HB.out.size))
  have HX := hid (HX.out.below hb5)
  have HL := hid (own_bel HL.out hb5)
  have HR1 := hid (HR1.out.below hb5)
  have HR2 := hid hr2
  have HO2 := hid (own_ltN hr2 _ (Nat.le_refl _))
  have HS5 := hid hb5.size
  clear hb5 hr2
  go_wp2_with fail
  refine (apply_any _ _ a cs (by omega) w5 HX.out.sl (ls_chop HL.out)).mono ?_
  rintro e w6 ⟨p3, c3, rfl, hr3, hb6⟩
  have HB := hid (HB.out.trans (hb6.mono HB.out.size))
  have HX := hid (HX.out.below hb6)
  have HL := hid (own_bel HL.out hb6)
  have HR1 := hid (HR1.out.below hb6)
  have HR2 := hid (HR2.out.below hb6)
  have HR3 := hid hr3
  have HO3 := hid (own_ltN hr3 _ (Nat.le_refl _))
  have HS6 := hid hb6.size
  clear hb6 hr3
  go_wp2_with fail
  refine (whole_any _ _ _ a hla w6 HX.out (HG.out.1.below HB.out)).mono ?_
  rintro e w9 ⟨rfl, hw9⟩
  obtain rfl := hw9.symm
  go_wp2_with fail
  refine (same_any _ _ cs (by omega) w6 (ls_chop HL.out) (HG.out.2.below HB.out)).mono ?_
  rintro e w9 ⟨rfl, qq, rfl⟩
  have lsL := S.own_sl (l := cs ++ [mkC]) hC (by rw [show (cs ++ [mkC]).length = cs.length + 1 by simp]; exact HL.out)
  obtain ⟨pp, cpp, e1, _, slL⟩ := lsL.ex
  have e2 : pp = some ⟨gl, 0, none⟩ := by
    simp only [Value.slice.injEq] at e1
    exact e1.1.symm
  subst e2
  clear e1
  obtain ⟨b0, o0, e0, hcm⟩ := slL cs.length mkC (by simp)
  simp only [Option.some.injEq, Addr.mk.injEq] at e0
  obtain ⟨rfl, rfl, _⟩ := e0
  have c777 : w6.cell? ⟨gl, cs.length * 4, none⟩ = some (.int .i64 777) := by simpa [mkC] using hcm 0 _ rfl
  clear hcm slL lsL
  have i1 : (cs.length : Int) + 1 ≤ cl := by omega
  obtain ⟨wq, hwq⟩ : ∃ wq, w6.drewN qq = wq := ⟨_, rfl⟩
  have HWQ := hid hwq
  have c777q : wq.cell? ⟨gl, cs.length * 4, none⟩ = some (.int .i64 777) := by rw [← hwq]; exact c777
  rw [hwq]
  clear hwq c777
  --A
  go_upto_region 9 with fail
  have hbq : Below W.heap.size W wq := by rw [← HWQ.out]; exact ⟨HB.out.os, HB.out.tape, HB.out.output, HB.out.size, HB.out.block⟩
  have hbz : Below wq.heap.size wq (wq.alloc (.cells #[] 52)) := (Below.refl _ _).alloc (Nat.le_refl _) _
  have hcs := S.Ls.cs hC (by decide) oneC ((HG.out.2.below hbq).below hbz)
  have hrw : (wq.alloc (.cells #[] 52)).ownsRow wq.heap.size 52 4 (.slice (some ⟨wq.heap.size, 0, none⟩) 0 0) 0 [] :=
    ⟨rfl, .inr ⟨wq.heap.size, 0, #[], rfl, Nat.le_refl _, heap_alloc_new wq _, Nat.le_refl _, by decide, rfl, rfl⟩⟩
  have hbL := own_bel (show wq.ownsRow w2.heap.size 32 4 (.slice (some ⟨gl, 0, none⟩) (cs.length + 1) cl) (cs.length + 1) (S.en eC (cs ++ [mkC])) by rw [← HWQ.out]; exact HL.out) hbz
  have HH := hid (And.intro hrw (And.intro hcs (And.intro hbz hbq)))
  clear hrw hcs hbz hbq hbL c777q
  have hq := HQ.out
  go_wp2_with (first | (at_builtin; refine S.wpList_append_row _ rfl _ _ 34 52 zC 4 24 Try.underlying34 infoR rfl (by decide) rfl wq.heap.size _ 0 [] rfl HH.out.1 _ cs.length (S.en eC cs) rfl HH.out.2.1 (by omega) (by unfold maxLen; omega) HH.out.2.2.1.size ?_))
  intro vo w8 hr8 hg8
  have hr8 : w8.ownsRow wq.heap.size 52 4 vo cs.length (S.en eC cs) := hr8
  have hb8 : Below wq.heap.size wq w8 := HH.out.2.2.1.trans (hg8.below (fun g e => (HH.out.1.lt g e).1) HH.out.2.2.1.size)
  have hsq : wq.heap.size = w6.heap.size := by rw [← HWQ.out]; rfl
  obtain ⟨go, co, hgo, hvo⟩ : ∃ go co, wq.heap.size ≤ go ∧ (0 < cs.length → vo = .slice (some ⟨go, 0, none⟩) cs.length co) := by
    rcases hr8.2 with ⟨_, h0⟩ | ⟨go, co, cur, hv, h1, _⟩
    · exact ⟨wq.heap.size, 0, Nat.le_refl _, fun h => by omega⟩
    · exact ⟨go, co, h1, fun _ => hv⟩
  have hB8 := HH.out.2.2.2.trans (hb8.mono HH.out.2.2.2.size)
  have hL8 := own_bel (show wq.ownsRow w2.heap.size 32 4 (.slice (some ⟨gl, 0, none⟩) (cs.length + 1) cl) (cs.length + 1) (S.en eC (cs ++ [mkC])) by rw [← HWQ.out]; exact HL.out) hb8
  have hX8 := (show Rmd wq w1.heap.size (.slice (some ⟨g, 0, none⟩) a.length cap) a by rw [← HWQ.out]; exact HX.out).below hb8
  have h81 := Row.below (show Row wq w3.heap.size (.slice p1 (apL a cs).length c1) (apL a cs) by rw [← HWQ.out]; exact HR1.out) hb8
  have h82 := Row.below (show Row wq w4.heap.size (.slice p2 (apL a cs).length c2) (apL a cs) by rw [← HWQ.out]; exact HR2.out) hb8
  have h83 := Row.below (show Row wq w5.heap.size (.slice p3 (apL a cs).length c3) (apL a cs) by rw [← HWQ.out]; exact HR3.out) hb8
  obtain ⟨pv, cv', hve⟩ := own_val hr8
  subst hve
  have HV := hid hvo
  have HK := hid (And.intro hB8 (And.intro hL8 (And.intro hX8 (And.intro h81 (And.intro h82 (And.intro h83 hr8))))))
  have HN := hid (And.intro hsq (And.intro hgo hb8.size))
  clear hB8 hL8 hX8 h81 h82 h83 hr8 hb8 hg8 HH hsq hgo hvo HB HX HL HR1 HR2 HR3 HWQ hq
  go_wp2
  go_loopw [14] (fun i wr => ∃ k : Nat, k ≤ cs.length ∧ i = .int .i64 (k : Int) ∧ wr.ownsRow w2.heap.size 32 4 (.slice (some ⟨gl, 0, none⟩) (cs.length + 1) cl) (cs.length + 1) (S.en eC (bm k cs ++ [mkC])) ∧ wr.ownsRow wq.heap.size 52 4 (.slice pv cs.length cv') cs.length (S.en eC (bm k cs)) ∧ B2 gl go w8 wr) (fun i _ => cs.length - (intOf i).toNat)
  case atStart => exact ⟨0, by omega, rfl, by rw [bm_zero]; exact HK.out.2.1, by rw [bm_zero]; exact HK.out.2.2.2.2.2.2, B2.refl _ _ _⟩
  case round =>
    obtain ⟨k, hk, rfl, hrl, hro, hb2⟩ := hrel
    by_cases hlt : k < cs.length
    · --B
      have hne : 0 < cs.length := by omega
      have hpv := HV.out hne
      simp only [Value.slice.injEq, true_and] at hpv
      obtain ⟨rfl, rfl⟩ := hpv
      have i2 : (k : Int) < cs.length := by omega
      have hgn := bm_get k cs hlt
      have hbs := bm_set k cs hlt
      have hbl := bm_len k cs (by omega)
      have hgm : (bm k cs ++ [mkC])[k]? = some cs[k] := by rw [List.getElem?_append_left (by omega)]; exact hgn
      obtain ⟨c, hce⟩ : ∃ c, cs[k] = c := ⟨_, rfl⟩
      rw [hce] at hgn hbs hgm
      have hbn := bump_n c
      have lsA := S.own_sl (l := bm k cs ++ [mkC]) hC (by rw [show (bm k cs ++ [mkC]).length = cs.length + 1 by simp [hbl]]; exact hrl)
      have lsB := S.own_sl (l := bm k cs) hC (by rw [hbl]; exact hro)
      obtain ⟨pp, cpp, e1, _, slL⟩ := lsA.ex
      have e2 : pp = some ⟨gl, 0, none⟩ := by
        simp only [Value.slice.injEq] at e1
        exact e1.1.symm
      subst e2
      clear e1
      obtain ⟨pp, cpp, e1, _, slM⟩ := lsB.ex
      have e2 : pp = some ⟨go, 0, none⟩ := by
        simp only [Value.slice.injEq] at e1
        exact e1.1.symm
      subst e2
      clear e1
      obtain ⟨b0, o0, e0, hcm⟩ := slL k c hgm
      simp only [Option.some.injEq, Addr.mk.injEq] at e0
      obtain ⟨rfl, rfl, _⟩ := e0
      obtain ⟨b0, o0, e0, hcn⟩ := slM k c hgn
      simp only [Option.some.injEq, Addr.mk.injEq] at e0
      obtain ⟨rfl, rfl, _⟩ := e0
      have cA : wr.drew.cell? ⟨gl, k * 4 + 3, none⟩ = some (.int .u8 (c.n.toNat : Int)) := by simpa using hcm 3 _ rfl
      have cB : wr.drew.cell? ⟨go, k * 4 + 3, none⟩ = some (.int .u8 (c.n.toNat : Int)) := by simpa using hcn 3 _ rfl
      have hgo : gl ≠ go := by
        have h1 := HLL.out.2
        have h2 := HN.out.1
        have h3 := HN.out.2.1
        have h4 := HS4.out
        have h5 := HS5.out
        have h6 := HS6.out
        omega
      have HE := hid (And.intro hb2 (And.intro hbs (And.intro hgn hgm)))
      have hA : wr.drew.ownsRow w2.heap.size 32 4 (.slice (some ⟨gl, 0, none⟩) (cs.length + 1) cl) (cs.length + 1) (S.en eC (bm k cs ++ [mkC])) := hrl
      have hB : wr.drew.ownsRow wq.heap.size 52 4 (.slice (some ⟨go, 0, none⟩) cs.length cv') cs.length (S.en eC (bm k cs)) := hro
      have hD := hb2.drew
      clear hcm hcn slL slM lsA lsB hrl hro hb2 hbs hgn hgm hce
      go_wp2_with fail
      refine wp_region_drop [18, 21] (S := fun wz : World => wz.cell? ⟨gl, k * 4 + 3, none⟩ = some (.int .u8 (c.n.toNat : Int)) ∧ wz.cell? ⟨go, k * 4 + 3, none⟩ = some (.int .u8 (c.n.toNat : Int))) (by kernel_rfl) ⟨cA, cB⟩ (fun hHeld => ?_)
      generalize wr.drew = y0 at *
      refine wpD_takeP (i := 0) (v := ?_) rfl (by kernel_rfl) (by kernel_rfl) (by kernel_rfl) (by kernel_rfl) (fun c a w h => h) (Or.inl ⟨by rfl, ?_⟩) (fun _ => hHeld) ?_
      rotate_left
      · (intro w hSw; clear hSw; go_simp; try with_reducible rfl)
      simp only [Act.put, List.getElem_toArray, List.getElem_cons_zero, List.getElem_cons_succ, List.setIfInBounds_toArray, List.set_cons_zero, List.set_cons_succ]
      refine wpD_takeP (i := 1) (v := ?_) rfl (by kernel_rfl) (by kernel_rfl) (by kernel_rfl) (by kernel_rfl) (fun c a w h => h) (Or.inl ⟨by rfl, ?_⟩) (fun _ => hHeld) ?_
      rotate_left
      · (intro w hSw; clear hSw; go_simp; try with_reducible rfl)
      simp only [Act.put, List.getElem_toArray, List.getElem_cons_zero, List.getElem_cons_succ, List.setIfInBounds_toArray, List.set_cons_zero, List.set_cons_succ]
      refine wpD_takeP (i := 2) (v := ?_) rfl (by kernel_rfl) (by kernel_rfl) (by kernel_rfl) (by kernel_rfl) (fun c a w h => h) (Or.inl ⟨by rfl, ?_⟩) (fun _ => hHeld) ?_
      rotate_left
      · (intro w hSw; clear hSw; go_simp; try with_reducible rfl)
      simp only [Act.put, List.getElem_toArray, List.getElem_cons_zero, List.getElem_cons_succ, List.setIfInBounds_toArray, List.set_cons_zero, List.set_cons_succ]
      refine wpD_takeP (i := 3) (v := ?_) rfl (by kernel_rfl) (by kernel_rfl) (by kernel_rfl) (by kernel_rfl) (fun c a w h => h) (Or.inl ⟨by rfl, ?_⟩) (fun _ => hHeld) ?_
      rotate_left
      · (intro w hSw; clear hSw; go_simp; try with_reducible rfl)
      simp only [Act.put, List.getElem_toArray, List.getElem_cons_zero, List.getElem_cons_succ, List.setIfInBounds_toArray, List.set_cons_zero, List.set_cons_succ]
      refine wpD_takeP (i := 4) (v := ?_) rfl (by kernel_rfl) (by kernel_rfl) (by kernel_rfl) (by kernel_rfl) (fun c a w h => h) (Or.inl ⟨by rfl, ?_⟩) (fun _ => hHeld) ?_
      rotate_left
      · (intro w hSw; clear hSw; go_simp; try with_reducible rfl)
      simp only [Act.put, List.getElem_toArray, List.getElem_cons_zero, List.getElem_cons_succ, List.setIfInBounds_toArray, List.set_cons_zero, List.set_cons_succ]
      refine wpD_takeP (i := 5) (v := ?_) rfl (by kernel_rfl) (by kernel_rfl) (by kernel_rfl) (by kernel_rfl) (fun c a w h => h) (Or.inl ⟨by rfl, ?_⟩) (fun _ => hHeld) ?_
      rotate_left
      · (intro w hSw; clear hSw; go_simp; try with_reducible rfl)
      simp only [Act.put, List.getElem_toArray, List.getElem_cons_zero, List.getElem_cons_succ, List.setIfInBounds_toArray, List.set_cons_zero, List.set_cons_succ]
      refine wpD_takeP (i := 6) (v := ?_) rfl (by kernel_rfl) (by kernel_rfl) (by kernel_rfl) (by kernel_rfl) (fun c a w h => h) (Or.inl ⟨by rfl, ?_⟩) (fun _ => hHeld) ?_
      rotate_left
      · (intro w hSw; clear hSw; go_simp; try with_reducible rfl)
      simp only [Act.put, List.getElem_toArray, List.getElem_cons_zero, List.getElem_cons_succ, List.setIfInBounds_toArray, List.set_cons_zero, List.set_cons_succ]
      refine wpD_takeP (i := 7) (v := ?_) rfl (by kernel_rfl) (by kernel_rfl) (by kernel_rfl) (by kernel_rfl) (fun c a w h => h) (Or.inl ⟨by rfl, ?_⟩) (fun _ => hHeld) ?_
      rotate_left
      · (intro w hSw; clear hSw; go_simp; try with_reducible rfl)
      simp only [Act.put, List.getElem_toArray, List.getElem_cons_zero, List.getElem_cons_succ, List.setIfInBounds_toArray, List.set_cons_zero, List.set_cons_succ]
      refine wpD_takeP (i := 10) (v := ?_) rfl (by kernel_rfl) (by kernel_rfl) (by kernel_rfl) (by kernel_rfl) (fun c a w h => h) (Or.inl ⟨by rfl, ?_⟩) (fun _ => hHeld) ?_
      rotate_left
      · (intro w hSw; clear hSw; go_simp; try with_reducible rfl)
      simp only [Act.put, List.getElem_toArray, List.getElem_cons_zero, List.getElem_cons_succ, List.setIfInBounds_toArray, List.set_cons_zero, List.set_cons_succ]
      refine wpD_takeP (i := 11) (v := ?_) rfl (by kernel_rfl) (by kernel_rfl) (by kernel_rfl) (by kernel_rfl) (fun c a w h => h) (Or.inl ⟨by rfl, ?_⟩) (fun _ => hHeld) ?_
      rotate_left
      · (intro w hSw; clear hSw; go_simp; try with_reducible rfl)
      simp only [Act.put, List.getElem_toArray, List.getElem_cons_zero, List.getElem_cons_succ, List.setIfInBounds_toArray, List.set_cons_zero, List.set_cons_succ]
      refine wpD_takeP (i := 12) (v := ?_) rfl (by kernel_rfl) (by kernel_rfl) (by kernel_rfl) (by kernel_rfl) (fun c a w h => h) (Or.inl ⟨by rfl, ?_⟩) (fun _ => hHeld) ?_
      rotate_left
      · (intro w hSw; clear hSw; go_simp; try with_reducible rfl)
      simp only [Act.put, List.getElem_toArray, List.getElem_cons_zero, List.getElem_cons_succ, List.setIfInBounds_toArray, List.set_cons_zero, List.set_cons_succ]
      refine wpD_takeP (i := 13) (v := ?_) rfl (by kernel_rfl) (by kernel_rfl) (by kernel_rfl) (by kernel_rfl) (fun c a w h => h) (Or.inl ⟨by rfl, ?_⟩) (fun _ => hHeld) ?_
      rotate_left
      · (intro w hSw; clear hSw; go_simp; try with_reducible rfl)
      simp only [Act.put, List.getElem_toArray, List.getElem_cons_zero, List.getElem_cons_succ, List.setIfInBounds_toArray, List.set_cons_zero, List.set_cons_succ]
      refine wpD_takeT (i := 8) (v := ?_) rfl (by kernel_rfl) (by kernel_rfl) (by kernel_rfl) (by kernel_rfl) (by kernel_rfl) (by kernel_rfl) (fun c a w h => h) (Or.inl ⟨by rfl, ?_⟩) hHeld ?_
      rotate_left
      · (intro w hSw; (try dsimp only at hSw); go_simp; try with_reducible rfl)
      simp only [Act.put, List.getElem_toArray, List.getElem_cons_zero, List.getElem_cons_succ, List.setIfInBounds_toArray, List.set_cons_zero, List.set_cons_succ]
      refine wpD_takeT (i := 14) (v := ?_) rfl (by kernel_rfl) (by kernel_rfl) (by kernel_rfl) (by kernel_rfl) (by kernel_rfl) (by kernel_rfl) (fun c a w h => h) (Or.inl ⟨by rfl, ?_⟩) hHeld ?_
      rotate_left
      · (intro w hSw; (try dsimp only at hSw); go_simp; try with_reducible rfl)
      simp only [Act.put, List.getElem_toArray, List.getElem_cons_zero, List.getElem_cons_succ, List.setIfInBounds_toArray, List.set_cons_zero, List.set_cons_succ]
      refine wpD_takeP (i := 9) (v := ?_) rfl (by kernel_rfl) (by kernel_rfl) (by kernel_rfl) (by kernel_rfl) (fun c a w h => h) (Or.inl ⟨by rfl, ?_⟩) (fun _ => hHeld) ?_
      rotate_left
      · (intro w hSw; clear hSw; go_simp; try with_reducible rfl)
      simp only [Act.put, List.getElem_toArray, List.getElem_cons_zero, List.getElem_cons_succ, List.setIfInBounds_toArray, List.set_cons_zero, List.set_cons_succ]
      refine wpD_takeP (i := 15) (v := ?_) rfl (by kernel_rfl) (by kernel_rfl) (by kernel_rfl) (by kernel_rfl) (fun c a w h => h) (Or.inl ⟨by rfl, ?_⟩) (fun _ => hHeld) ?_
      rotate_left
      · (intro w hSw; clear hSw; go_simp; try with_reducible rfl)
      simp only [Act.put, List.getElem_toArray, List.getElem_cons_zero, List.getElem_cons_succ, List.setIfInBounds_toArray, List.set_cons_zero, List.set_cons_succ]
      refine wpD_takeP (i := 16) (v := ?_) rfl (by kernel_rfl) (by kernel_rfl) (by kernel_rfl) (by kernel_rfl) (fun c a w h => h) (Or.inl ⟨by rfl, ?_⟩) (fun _ => hHeld) ?_
      rotate_left
      · (intro w hSw; clear hSw; go_simp; try with_reducible rfl)
      simp only [Act.put, List.getElem_toArray, List.getElem_cons_zero, List.getElem_cons_succ, List.setIfInBounds_toArray, List.set_cons_zero, List.set_cons_succ]
      refine wpD_takeP (i := 17) (v := ?_) rfl (by kernel_rfl) (by kernel_rfl) (by kernel_rfl) (by kernel_rfl) (fun c a w h => h) (Or.inl ⟨by rfl, ?_⟩) (fun _ => hHeld) ?_
      rotate_left
      · (intro w hSw; clear hSw; go_simp; try with_reducible rfl)
      simp only [Act.put, List.getElem_toArray, List.getElem_cons_zero, List.getElem_cons_succ, List.setIfInBounds_toArray, List.set_cons_zero, List.set_cons_succ]
      have fA := own_fz hA (k * 4 + 3)
      refine wpD_ready (rs := [18]) (by kernel_rfl) (by simp) ?_
      refine AllD.late rfl (by kernel_rfl) (fun K hK => ?_)
      go_simp
      refine hK.out _ _ ?_
      clear hK K
      try simp only [Act.put, List.getElem_toArray, List.getElem_cons_zero, List.getElem_cons_succ, List.setIfInBounds_toArray, List.set_cons_zero, List.set_cons_succ]
      refine wpD_takeP (i := 19) (v := ?_) rfl (by kernel_rfl) (by kernel_rfl) (by kernel_rfl) (by kernel_rfl) (fun c a w h => h) (Or.inl ⟨by rfl, ?_⟩) (un_off (by kernel_rfl)) ?_
      rotate_left
      · (intro w hSw; clear hSw; go_simp; try with_reducible rfl)
      simp only [Act.put, List.getElem_toArray, List.getElem_cons_zero, List.getElem_cons_succ, List.setIfInBounds_toArray, List.set_cons_zero, List.set_cons_succ]
      refine wpD_takeP (i := 20) (v := ?_) rfl (by kernel_rfl) (by kernel_rfl) (by kernel_rfl) (by kernel_rfl) (fun c a w h => h) (Or.inl ⟨by rfl, ?_⟩) (un_off (by kernel_rfl)) ?_
      rotate_left
      · (intro w hSw; clear hSw; go_simp; try with_reducible rfl)
      simp only [Act.put, List.getElem_toArray, List.getElem_cons_zero, List.getElem_cons_succ, List.setIfInBounds_toArray, List.set_cons_zero, List.set_cons_succ]
      have fB : (y0.setCell ⟨gl, k * 4 + 3, none⟩ (.int .u8 ((bump c).n.toNat : Int))).frozen? ⟨go, k * 4 + 3, none⟩ = false :=
        own_fz (S.own_kept hB (fun i ei hi => heap_setCell_other y0 ⟨gl, k * 4 + 3, none⟩ i _ (fun h => hgo (h.symm.trans (blk ei).symm)))) (k * 4 + 3)
      have cB2 : (y0.setCell ⟨gl, k * 4 + 3, none⟩ (.int .u8 ((bump c).n.toNat : Int))).cell? ⟨go, k * 4 + 3, none⟩ = some (.int .u8 (c.n.toNat : Int)) := (World.cell?_setCell_far _ _ _ _ hgo).trans cB
      refine wpD_ready (rs := [21]) (by kernel_rfl) (by simp) ?_
      refine AllD.late rfl (by kernel_rfl) (fun K hK => ?_)
      go_simp
      refine hK.out _ _ ?_
      clear hK K
      try simp only [Act.put, List.getElem_toArray, List.getElem_cons_zero, List.getElem_cons_succ, List.setIfInBounds_toArray, List.set_cons_zero, List.set_cons_succ]
      refine wpD_done (by kernel_rfl) ?_ _
      have t1 := (World.ownsRow.stored hA (k * 4 + 3) (.int .u8 ((bump c).n.toNat : Int))).1
      have t2 := S.own_kept hB (fun i ei hi => heap_setCell_other y0 ⟨gl, k * 4 + 3, none⟩ i (.int .u8 ((bump c).n.toNat : Int)) (fun h => hgo (h.symm.trans (blk ei).symm)))
      have t3 := (World.ownsRow.stored t2 (k * 4 + 3) (.int .u8 ((bump c).n.toNat : Int))).1
      have t4 := S.own_kept t1 (fun i ei hi => heap_setCell_other (y0.setCell ⟨gl, k * 4 + 3, none⟩ (.int .u8 ((bump c).n.toNat : Int))) ⟨go, k * 4 + 3, none⟩ i (.int .u8 ((bump c).n.toNat : Int)) (fun h => hgo ((blk ei).trans h)))
      have eb : (⟨c.x, c.y, c.o, (bump c).n⟩ : Ch) = bump c := rfl
      rw [en_set3 _ k c _ HE.out.2.2.1, eb, HE.out.2.1] at t3
      rw [en_set3 _ k c _ HE.out.2.2.2, eb, List.set_append_left _ _ (by omega), HE.out.2.1] at t4
      have HF := hid (And.intro t4 (And.intro t3 ((hD.set1 (k * 4 + 3) (.int .u8 ((bump c).n.toNat : Int))).set2 (k * 4 + 3) (.int .u8 ((bump c).n.toNat : Int)))))
      clear t1 t2 t3 t4 hA hB hD fA fB cA cB cB2
      go_wp2
      go_roundw
      case rel => exact ⟨k + 1, by omega, by go_num, HF.out.1, HF.out.2.1, HF.out.2.2⟩
      case measure => simp [intOf]; omega
    · --C
      obtain rfl : k = cs.length := by omega
      obtain ⟨M, hM⟩ : ∃ M, bm cs.length cs = M := ⟨_, rfl⟩
      have hml : M.length = cs.length := by rw [← hM]; exact bm_len _ _ (by omega)
      rw [hM] at hrl hro
      have lsM : S.Ls eC 4 wr (.slice (some ⟨gl, 0, none⟩) cs.length cl) M := by
        have := ls_chop (l := M) (x := mkC) (by rw [hml]; exact hrl)
        rw [hml] at this
        exact this
      have lsO : S.Ls eC 4 wr (.slice pv cs.length cv') M := S.own_sl (l := M) hC (by rw [hml]; exact hro)
      obtain ⟨n0, n00⟩ := HGL.out
      obtain ⟨n1, n2⟩ := HLL.out
      obtain ⟨n3, n4, n5⟩ := HN.out
      have n6 := HS1.out
      have n7 := HS2.out
      have n8 := HS3.out
      have n9 := HS4.out
      have n10 := HS5.out
      have n11 := HS6.out
      have n12 := hb2.size
      obtain ⟨k1, k2, ⟨g', cap', ke, k3⟩, k4, k5, k6, _⟩ := HK.out
      simp only [Value.slice.injEq, Option.some.injEq, Addr.mk.injEq] at ke
      obtain ⟨⟨rfl, _⟩, _, rfl⟩ := ke
      have bW := hb2.below k1 (Nat.le_refl _) (by omega) (by omega)
      have rX0 := hb2.own k3 (fun i ei => by
        have e3 : g = i := by simpa [Value.ownBlock] using ei
        subst e3
        constructor <;> omega)
      have rX : Rmd wr w1.heap.size (.slice (some ⟨g, 0, none⟩) a.length cap) a := ⟨g, cap, rfl, rX0⟩
      have r1 : Row wr w3.heap.size (.slice p1 (apL a cs).length c1) (apL a cs) := hb2.own k4 (fun i ei => by have h1 := HO1.out i ei; have h2 := (k4.lt i ei).1; constructor <;> omega)
      have r2 : Row wr w4.heap.size (.slice p2 (apL a cs).length c2) (apL a cs) := hb2.own k5 (fun i ei => by have h1 := HO2.out i ei; have h2 := (k5.lt i ei).1; constructor <;> omega)
      have r3 : Row wr w5.heap.size (.slice p3 (apL a cs).length c3) (apL a cs) := hb2.own k6 (fun i ei => by have h1 := HO3.out i ei; have h2 := (k6.lt i ei).1; constructor <;> omega)
      have hm1 : M.length ≤ 281474976710656 := by omega
      have HT := hid (And.intro bW (And.intro rX (And.intro r1 (And.intro r2 (And.intro r3 (And.intro lsM lsO))))))
      have HNN := hid (show W.heap.size ≤ w3.heap.size ∧ w4.heap.size ≤ w5.heap.size ∧ w6.heap.size ≤ wr.heap.size ∧ w3.heap.size ≤ w5.heap.size ∧ w5.heap.size ≤ wr.heap.size by omega)
      clear lsM lsO n0 n00 n1 n2 n3 n4 n5 n6 n7 n8 n9 n10 n11 n12 k1 k2 k3 k4 k5 k6 bW rX0 rX r1 r2 r3 hrl hro hb2 HK HN HV HS1 HS2 HS3 HS4 HS5 HS6 HGL HLL hM
      go_wp2_with fail
      refine (apply_any _ _ a M hm1 wr HT.out.2.1.sl HT.out.2.2.2.2.2.1).mono ?_
      rintro e w10 ⟨p4, c4, rfl, hr4, hb10⟩
      have HR4 := hid hr4
      have H10 := hid hb10
      clear hr4 hb10
      go_wp2_with fail
      refine (rapply_any _ _ a M hm1 w10 ((HG.out.1.below HT.out.1).below H10.out) (HT.out.2.2.2.2.2.2.below H10.out)).mono ?_
      rintro e w11 ⟨p5, c5, rfl, hr5, hb11⟩
      have hbb := H10.out.trans (hb11.mono H10.out.size)
      have r1 := HT.out.2.2.1.below hbb
      have r2 := HT.out.2.2.2.1.below hbb
      have r3 := HT.out.2.2.2.2.1.below hbb
      have r4 := HR4.out.below hb11
      have b1 := HT.out.1.trans (hbb.mono HT.out.1.size)
      have m1 := apL_len a cs
      have m2 := apL_len a M
      have v1 := r1.sl.conv (by unfold maxLen; omega)
      have v2 := r2.sl.conv (by unfold maxLen; omega)
      have v3 := r3.sl.conv (by unfold maxLen; omega)
      have v4 := r4.sl.conv (by unfold maxLen; omega)
      have v5 := hr5.sl.conv (by unfold maxLen; omega)
      obtain ⟨n1, n2, n3, n4, n5⟩ := HNN.out
      have hsz := hbb.size
      have hP := p1_three (B := w3.heap.size) r1 r3 r4 (fun g' e => Nat.lt_of_lt_of_le (HO1.out g' e) (by omega)) (fun g' e => Nat.lt_of_lt_of_le (HO3.out g' e) (by omega)) (Nat.le_refl _) (by omega) (by omega) (by omega)
      have hap := apart_any w3.heap.size w11.heap.size 3 (by omega) _ _ _ _ hP (fun i hi => by
        unfold room three
        split
        · omega
        · split <;> omega)
      have hfin : Below W.heap.size W (w11.alloc (.cells #[.slice p1 (apL a cs).length c1, .slice p3 (apL a cs).length c3, .slice p4 (apL a M).length c4] 22)) := b1.alloc b1.size _
      have HF := hid (And.intro hfin n1)
      clear r1 r2 r3 r4 hr5 hb11 hbb HT HR4 H10 HNN hP hfin n1 n2 n3 n4 n5 hsz b1 m1 m2
      go_wp2_with fail
      refine hap.mono ?_
      rintro r w12 ⟨rfl, hb12⟩
      have HE := hid (HF.out.1.trans (hb12.mono HF.out.2))
      clear hb12 hap
      go_wp2
      go_ret
      exact ⟨rfl, HE.out⟩
end Go.Proofs.Ytlljelfplffglaa.H
