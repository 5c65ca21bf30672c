import Derived.Test.YtmlpijjjkpnioaaDoorCRs
/-! readSections. -/
namespace Go.Proofs.YtmlpijjjkpnioaaDoor.C
open Go.RowKit
open Go.Proofs
open Go.Proofs.YtmlpijjjkpnioaaDoor.K
set_option linter.unusedVariables false
set_option linter.unusedSimpArgs false
set_option maxHeartbeats 4000000
set_option maxRecDepth 100000
/-- What readSections answers. -/
def SecO (w w' : World) (entry : Nat) (ls : List Sec) (e : Ending) : Prop :=
  ∃ v, e = .returned (.tuple #[v, .int .i64 (if secsOk ls then 0 else 73)]) ∧ ∃ kv ev bv prs, OwC w' w.heap.size v (if secsOk ls then cartOf entry ls else ct0) kv ev bv prs
def dfr (w : World) : List Deferred := [{ target := Target.fn (Fn.func 57) #[.pointer (some ⟨w.heap.size, 0, none⟩), .pointer (some ⟨w.heap.size + 1, 0, none⟩)], args := #[] }]
theorem door_res (w W : World) (T : Array Value) (ht4 : T.getD 4 undef = .pointer (some ⟨w.heap.size, 0, none⟩)) (ht5 : T.getD 5 undef = .pointer (some ⟨w.heap.size + 1, 0, none⟩)) (v0 v1 v2 v3 v4 : Value)
    (h0 : W.heap[w.heap.size]? = some (.cells #[v0, v1, v2, v3] 27 (0, 0))) (h1 : W.heap[w.heap.size + 1]? = some (.cells #[v4] 28 (0, 0))) :
    (results Tryd.f40 T).run Tryd.prog W = .ok (.tuple #[.agg #[v0, v1, v2, v3], v4]) W := by
  have c0 := cell_of W w.heap.size 0 [v0, v1, v2, v3] _ _ h0 rfl
  have c1 := cell_of W w.heap.size 1 [v0, v1, v2, v3] _ _ h0 rfl
  have c2 := cell_of W w.heap.size 2 [v0, v1, v2, v3] _ _ h0 rfl
  have c3 := cell_of W w.heap.size 3 [v0, v1, v2, v3] _ _ h0 rfl
  have c4 := cell_of W (w.heap.size + 1) 0 [v4] _ _ h1 rfl
  have t4 : T[4]?.getD undef = .pointer (some ⟨w.heap.size, 0, none⟩) := by rw [← Array.getD_eq_getD_getElem?]; exact ht4
  have t5 : T[5]?.getD undef = .pointer (some ⟨w.heap.size + 1, 0, none⟩) := by rw [← Array.getD_eq_getD_getElem?]; exact ht5
  simp [results, Tryd.results40, go_sem, t4, t5, c0, c1, c2, c3, c4]
theorem door_panic (w W : World) (entry : Nat) (ls : List Sec) (T : Array Value) (ht4 : T.getD 4 undef = .pointer (some ⟨w.heap.size, 0, none⟩)) (ht5 : T.getD 5 undef = .pointer (some ⟨w.heap.size + 1, 0, none⟩)) (v0 v1 v2 v3 v4 : Value)
    (h0 : W.heap[w.heap.size]? = some (.cells #[v0, v1, v2, v3] 27 (0, 0))) (h1 : W.heap[w.heap.size + 1]? = some (.cells #[v4] 28 (0, 0))) (hB : Below w.heap.size w W) (hf : secsOk ls = false) :
    bodyPostD Tryd.prog Tryd.f40 (fun e w' => SecO w w' entry ls e ∧ Below w.heap.size w w') (Exit.panic refused) { tmps := T, defers := dfr w } W := by
  unfold dfr
  refine leaves_cons (f := 57) (args := #[.pointer (some ⟨w.heap.size, 0, none⟩), .pointer (some ⟨w.heap.size + 1, 0, none⟩)]) (by simp) (by simp [go_sem]) ?_
  refine (catch_panicking w.heap.size (w.heap.size + 1) v0 v1 v2 v3 v4 W h0 h1).mono ?_
  rintro e u' w'' ⟨rfl, rfl, g0, g1, g2, g3, g4, g5, g6⟩
  refine ⟨_, door_res w w'' T ht4 ht5 _ _ _ _ _ g0 g1, ⟨.agg #[.slice none 0 0, .int .u16 0, .slice none 0 0, .slice none 0 0], ?_, ?_⟩, ?_⟩
  · simp only [hf, Bool.false_eq_true, if_false]
  · simp only [hf, Bool.false_eq_true, if_false]
    exact ⟨_, _, _, _, OwC.zero w'' w.heap.size⟩
  · exact ⟨g4.trans hB.os, g5.trans hB.tape, g6.trans hB.output, by rw [g2]; exact hB.size, fun k hk => (g3 k (by omega) (by omega)).trans (hB.block k hk)⟩
theorem door_ret (w W : World) (entry : Nat) (ls : List Sec) (T : Array Value) (ht4 : T.getD 4 undef = .pointer (some ⟨w.heap.size, 0, none⟩)) (ht5 : T.getD 5 undef = .pointer (some ⟨w.heap.size + 1, 0, none⟩)) (v0 v1 v2 v3 : Value) (prs : List (Bk × Value))
    (h0 : W.heap[w.heap.size]? = some (.cells #[v0, v1, v2, v3] 27 (0, 0))) (h1 : W.heap[w.heap.size + 1]? = some (.cells #[.int .i64 0] 28 (0, 0))) (hB : Below w.heap.size w W) (hf : secsOk ls = true)
    (ho : OwC W w.heap.size (.agg #[v0, v1, v2, v3]) (cartOf entry ls) v0 v2 v3 prs) :
    bodyPostD Tryd.prog Tryd.f40 (fun e w' => SecO w w' entry ls e ∧ Below w.heap.size w w') Exit.ret { tmps := T, defers := dfr w } W := by
  unfold dfr
  refine leaves_cons (f := 57) (args := #[.pointer (some ⟨w.heap.size, 0, none⟩), .pointer (some ⟨w.heap.size + 1, 0, none⟩)]) (by simp) (by simp [go_sem]) ?_
  refine (catch_idle ⟨w.heap.size, 0, none⟩ ⟨w.heap.size + 1, 0, none⟩ W).mono ?_
  rintro e u' w'' ⟨rfl, rfl, rfl⟩
  refine ⟨_, door_res w w'' T ht4 ht5 _ _ _ _ _ h0 h1, ⟨.agg #[v0, v1, v2, v3], ?_, ?_⟩, hB⟩
  · simp only [hf, if_true]
  · simp only [hf, if_true]
    exact ⟨_, _, _, _, ho⟩
theorem leaves_congr {fn : Func} {T T' : Array Value} {R : Ending → World → Prop} (h : results fn T = results fn T') : ∀ (ds : List Deferred) (u : FrameMode) (w : World), Leaves Tryd.prog fn T R ds u w → Leaves Tryd.prog fn T' R ds u w
  | [], .returning, w, hL => by obtain ⟨v, h1, h2⟩ := hL; exact ⟨v, h ▸ h1, h2⟩
  | [], .panicking c, w, hL => hL
  | [], .run, w, hL => hL
  | d :: ds, u, w, hL => by
    obtain ⟨h1, fv, cap, f, args, h2, h3, h4⟩ := hL
    refine ⟨h1, fv, cap, f, args, h2, h3, h4.mono ?_⟩
    intro e u' w' he
    cases e with
    | returned v => exact leaves_congr h ds _ _ he
    | panicked c => exact leaves_congr h ds _ _ he
    | outgrown => exact he
theorem res_put (T : Array Value) (d : Nat) (v : Value) (h4 : d ≠ 4) (h5 : d ≠ 5) : results Tryd.f40 (T.setIfInBounds d v) = results Tryd.f40 T := by
  have e4 : (T.setIfInBounds d v)[4]? = T[4]? := Array.getElem?_setIfInBounds_ne h4
  have e5 : (T.setIfInBounds d v)[5]? = T[5]? := Array.getElem?_setIfInBounds_ne h5
  simp [results, Tryd.results40, e4, e5]
theorem put_door {R : Ending → World → Prop} {c : List PanicEntry} {a : Act} {w : World} (d : Nat) (h4 : d ≠ 4) (h5 : d ≠ 5) (v : Value) (h : bodyPostD Tryd.prog Tryd.f40 R (.panic c) (a.put (some d) v) w) : bodyPostD Tryd.prog Tryd.f40 R (.panic c) a w :=
  leaves_congr (res_put a.tmps d v h4 h5) _ _ _ h
theorem readSections_any (entry : Nat) (hen : entry < 65536) (g : Nat) (ls : List Sec) (h2 : 2 ≤ ls.length) (h18 : ls.length ≤ 18) (w : World) (h : SeS w (some ⟨g, 0, none⟩) ls) :
    Calls Tryd.prog 40 #[.int .u16 (entry : Int), .slice (some ⟨g, 0, none⟩) ls.length ls.length] w fun e w' => SecO w w' entry ls e ∧ Below w.heap.size w w' := by
  obtain ⟨l0, l1, lr, rfl⟩ : ∃ a b r, ls = a :: b :: r := by
    match ls, h2 with
    | a :: b :: r, _ => exact ⟨a, b, r, rfl⟩
  have hmf : ∀ (fn : Fn) (first cap : Array Value) (w : World), (Instr.makeFunc fn first cap).run Tryd.prog w = .ok (.func fn first cap) w := fun _ _ _ _ => rfl
  obtain ⟨b0, o0, d0, p0, a1, a2, a3, a4, a5⟩ := h 0 l0 rfl
  obtain ⟨b1, o1, d1, p1, c1, c2, c3, c4, c5⟩ := h 1 l1 rfl
  simp only [Option.some.injEq, Addr.mk.injEq, and_true] at p0 p1
  obtain ⟨rfl, rfl⟩ := p0
  obtain ⟨rfl, rfl⟩ := p1
  obtain ⟨n, hn⟩ : ∃ n, n = (l0 :: l1 :: lr).length := ⟨_, rfl⟩
  have hnr : n = lr.length + 2 := by rw [hn]; simp
  rw [← hn] at h18 ⊢
  have HNR := hid hnr
  obtain ⟨WA, hWA⟩ : ∃ WA, WA = ((w.alloc (.cells #[.slice none 0 0, .int .u16 (entry : Int), .slice none 0 0, .slice none 0 0] 27)).alloc (.cells #[.int .i64 0] 28)) := ⟨_, rfl⟩
  have hBA : Below w.heap.size w WA := by rw [hWA]; exact ((Below.refl _ _).alloc (Nat.le_refl _) _).alloc (by simp) _
  have hzA : WA.heap.size = w.heap.size + 2 := by rw [hWA]; simp
  have hA0 : WA.heap[w.heap.size]? = some (.cells [.slice none 0 0, .int .u16 (entry : Int), .slice none 0 0, .slice none 0 0].toArray 27 (0, 0)) := by
    rw [hWA, Below.heap_alloc _ _ _ (by simp)]; exact heap_alloc_new w _
  have hA1 : WA.heap[w.heap.size + 1]? = some (.cells [.int .i64 0].toArray 28 (0, 0)) := by
    rw [hWA]; have := heap_alloc_new (w.alloc (.cells #[.slice none 0 0, .int .u16 (entry : Int), .slice none 0 0, .slice none 0 0] 27)) (.cells #[.int .i64 0] 28); simpa using this
  have k0 : WA.cell? ⟨g, 2, none⟩ = some d0 := by have := below_cell hBA _ _ a3; simpa using this
  have hs0 := a4.below hBA
  have f0 := frozen_of WA w.heap.size 0 _ _ hA0
  have q0 := cell_of WA w.heap.size 0 _ _ _ hA0 rfl
  have i0 : (0 : Int) < n := by omega
  have i1 : (1 : Int) < n := by omega
  have i2 : (2 : Int) ≤ n := by omega
  have hsO : secsOk (l0 :: l1 :: lr) = (codeB l0.2.2 && esOk l1.2.2 && dts lr) := rfl
  have HSO := hid hsO
  have HBA := hid hBA
  have HA0 := hid hA0
  have HA1 := hid hA1
  have HH := hid h
  have HZA := hid hzA
  obtain ⟨dp0, dc0, rfl, _⟩ := a4.ex
  clear hn hnr hBA hA0 hA1 hsO h2 h hzA a1 a2 a3 a4 c1 c2
  by_cases g1 : codeB l0.2.2 = true
  case neg =>
    have g1 : codeB l0.2.2 = false := by simpa using g1
    have hno := readCode_no _ _ a5 WA hs0 g1
    have hf : secsOk (l0 :: l1 :: lr) = false := by rw [HSO.out, g1]; rfl
    rw [hWA] at hno k0
    clear c3 c4 f0 q0
    go_enter_defers Tryd.func40, Tryd.ntmps40
    go_wp2_with fail
    refine hno.mono ?_
    rw [← hWA]
    rintro e w1 ⟨rfl, rfl⟩
    exact door_panic w _ entry _ _ rfl rfl _ _ _ _ _ HA0.out HA1.out HBA.out hf
  have hok := readCode_ok _ _ a5 WA hs0 g1
  rw [hWA] at hok k0 q0 f0
  go_enter_defers Tryd.func40, Tryd.ntmps40
  go_wp2_with fail
  refine hok.mono ?_
  rw [← hWA]
  rintro e w1 ⟨kv, rfl, hkv, hb1⟩
  have hx0 := (hb1.block _ (lt_of HA0.out)).trans HA0.out
  have hx1 := (hb1.block _ (lt_of HA1.out)).trans HA1.out
  have hB1 : Below w.heap.size w w1 := HBA.out.trans (hb1.mono HBA.out.size)
  have hkv2 : Row (w1.setCell ⟨w.heap.size, 0, none⟩ kv) w.heap.size kv l0.2.2 := (own_set (show w1.ownsRow _ 5 1 _ _ _ from hkv.mono HBA.out.size) hx0 (by decide) kv)
  have hy0 := setCell_heap w1 w.heap.size 0 _ _ kv hx0
  have hy1 : (w1.setCell ⟨w.heap.size, 0, none⟩ kv).heap[w.heap.size + 1]? = _ := (setCell_other w1 w.heap.size 0 (w.heap.size + 1) kv (by omega)).trans hx1
  have hB2 := set_below hB1 (Nat.le_refl _) 0 kv
  obtain ⟨kp, kc, hkk, _⟩ := hkv.sl.ex
  have m0 := cell_of w1 w.heap.size 0 _ _ _ hx0 rfl
  have n0 := frozen_of w1 w.heap.size 0 _ _ hx0
  have k1 : (w1.setCell ⟨w.heap.size, 0, none⟩ kv).cell? ⟨g, 5, none⟩ = some d1 := by have := below_cell hB2 _ _ c3; simpa using this
  have hre := readEffects_any d1 l1.2.2 c5 _ (c4.below hB2)
  obtain ⟨dp1, dc1, rfl, _⟩ := c4.ex
  subst hkk
  have HY0 := hid hy0
  have HY1 := hid hy1
  have HKV := hid hkv2
  have HB2 := hid hB2
  clear hok hkv hkv2 hx0 hx1 hb1 hB1 hy0 hy1 hB2 hWA c3 c4 k0 q0 f0 HA0 HA1 hs0
  generalize hnk : l0.2.2.length = nk at *
  by_cases g2 : esOk l1.2.2 = true
  case neg =>
    have g2 : esOk l1.2.2 = false := by simpa using g2
    have hf : secsOk (l0 :: l1 :: lr) = false := by rw [HSO.out, g2]; simp
    rw [g2] at hre
    simp only [Bool.false_eq_true, if_false] at hre
    go_wp2_with fail
    refine hre.mono ?_
    rintro e w2 ⟨rfl, hb2⟩
    exact door_panic w _ entry _ _ rfl rfl _ _ _ _ _ ((hb2.block _ (lt_of HY0.out)).trans HY0.out) ((hb2.block _ (lt_of HY1.out)).trans HY1.out) (HB2.out.trans (hb2.mono HB2.out.size)) hf
  rw [g2] at hre
  simp only [if_true] at hre
  go_wp2_with fail
  refine hre.mono ?_
  rintro e w2 ⟨⟨gE, rfl, hgE, hR3⟩, hb2⟩
  have hx0 := (hb2.block _ (lt_of HY0.out)).trans HY0.out
  have hx1 := (hb2.block _ (lt_of HY1.out)).trans HY1.out
  have hB3 : Below w.heap.size w w2 := HB2.out.trans (hb2.mono HB2.out.size)
  obtain ⟨nE, hnE⟩ : ∃ nE, nE = l1.2.2.length / 6 := ⟨_, rfl⟩
  rw [← hnE] at hR3 ⊢
  have hlE : (effD nE l1.2.2).length = nE := effD_len _ _
  have hnE2 : nE ≤ 8192 := by
    simp only [esOk, Bool.and_eq_true, decide_eq_true_eq] at g2; omega
  have hev : w2.ownsRow w.heap.size 80 3 (.slice (some ⟨gE, 0, none⟩) nE nE) nE (t3 ((effD nE l1.2.2).map encE)) := by
    have hl3 : (t3 ((effD nE l1.2.2).map encE)).length = nE * 3 := by rw [t3_len, List.length_map, hlE]
    exact ⟨hl3, .inr ⟨gE, nE, _, rfl, Nat.le_trans HB2.out.size hgE, hR3, Nat.le_refl _, by unfold maxLen; omega, by simp [hl3], by rw [List.take_of_length_le (by rw [hl3]; exact Nat.le_refl _)]⟩⟩
  have r0 : Rs w (w2.setCell ⟨w.heap.size, 2, none⟩ (.slice (some ⟨gE, 0, none⟩) nE nE)) ⟨l0.2.2, entry, effD nE l1.2.2, []⟩ (.slice kp nk kc) (.slice (some ⟨gE, 0, none⟩) nE nE) (.slice none 0 0) [] := by
    refine ⟨⟨rfl, own_set (show w2.ownsRow _ 5 1 _ _ _ from HKV.out.below hb2) hx0 (by decide) _, ?_, World.ownsRow_nil _ _ _ _, rfl, fun x hx => by simp at hx, by simp⟩, setCell_heap _ _ 2 _ _ _ hx0, ?_, set_below hB3 (Nat.le_refl _) _ _⟩
    · rw [hlE]; exact own_set hev hx0 (by decide) _
    · rw [setCell_other _ _ _ _ _ (by omega)]; exact hx1
  have m2 := cell_of w2 w.heap.size 2 _ _ _ hx0 rfl
  have n2 := frozen_of w2 w.heap.size 2 _ _ hx0
  have s2 := fun W => slice_from2 W g n (by have := HNR.out; omega)
  have HR0 := hid r0
  have HNE := hid hnE
  generalize hpg : (if n = 2 then some (⟨g, 0, none⟩ : Addr) else some ⟨g, 6, none⟩) = pg at *
  have HPG := hid hpg
  clear hre hR3 hb2 hx0 hx1 hB3 hev r0 hnE hlE hpg m0 n0 k1
  go_wp2_with fail
  obtain ⟨m, hm⟩ : ∃ m, n - 2 = m := ⟨_, rfl⟩
  rw [hm]
  have hml : m = lr.length := by have := HNR.out; omega
  have HML := hid hml
  have hm16 : m ≤ 16 := by have := HNR.out; omega
  clear hm hml s2 m2 n2
  go_loopw [26] (fun i wr => ∃ (k : Nat) (bv : Value) (prs : List (Bk × Value)), k ≤ m ∧ i = .int .i64 (k : Int) ∧ dts (lr.take k) = true ∧ Rs w wr ⟨l0.2.2, entry, effD nE l1.2.2, bks (lr.take k)⟩ (.slice kp nk kc) (.slice (some ⟨gE, 0, none⟩) nE nE) bv prs) (fun i _ => m - (intOf i).toNat)
  case atStart => exact ⟨0, _, _, by omega, rfl, rfl, HR0.out⟩
  case round =>
    clear HR0
    obtain ⟨k, bv, prs, hk, rfl, hdt, hS⟩ := hrel
    by_cases hlt : k < m
    case neg =>
      obtain rfl : k = m := by omega
      have htk : lr.take k = lr := by rw [HML.out, List.take_length]
      rw [htk] at hdt hS
      have hf : secsOk (l0 :: l1 :: lr) = true := by rw [HSO.out, g1, g2, hdt]; rfl
      have hcf : cartOf entry (l0 :: l1 :: lr) = ⟨l0.2.2, entry, effD nE l1.2.2, bks lr⟩ := by rw [HNE.out]; rfl
      have q0 := cell_of wr w.heap.size 0 _ _ _ hS.b0 rfl
      have q1 := cell_of wr w.heap.size 1 _ _ _ hS.b0 rfl
      have q2 := cell_of wr w.heap.size 2 _ _ _ hS.b0 rfl
      have q3 := cell_of wr w.heap.size 3 _ _ _ hS.b0 rfl
      have q4 := cell_of wr (w.heap.size + 1) 0 _ _ _ hS.b1 rfl
      have f0 := frozen_of wr w.heap.size 0 _ _ hS.b0
      have f1 := frozen_of wr w.heap.size 1 _ _ hS.b0
      have f2 := frozen_of wr w.heap.size 2 _ _ hS.b0
      have f3 := frozen_of wr w.heap.size 3 _ _ hS.b0
      have f4 := frozen_of wr (w.heap.size + 1) 0 _ _ hS.b1
      have z0 := set_same wr w.heap.size 0 _ _ _ hS.b0 rfl
      have z1 := set_same wr w.heap.size 1 _ _ _ hS.b0 rfl
      have z2 := set_same wr w.heap.size 2 _ _ _ hS.b0 rfl
      have z3 := set_same wr w.heap.size 3 _ _ _ hS.b0 rfl
      have z4 := set_same wr (w.heap.size + 1) 0 _ _ _ hS.b1 rfl
      obtain ⟨bp, bc, hbv⟩ := own_form hS.own.banks
      have HS := hid hS
      subst hbv
      have HF := hid hf
      have HCF := hid hcf
      clear hS htk hdt hf hcf
      go_wp2_with fail
      have hS := HS.out
      refine door_ret w wr entry _ _ rfl rfl _ _ _ _ prs hS.b0 hS.b1 hS.bel HF.out ?_
      rw [HCF.out]
      exact hS.own
    have i3 : (k : Int) < m := by omega
    have hkl : k < lr.length := by rw [← HML.out]; exact hlt
    have hpg : pg = some ⟨g, 6, none⟩ := by have := HPG.out; rw [if_neg (by have := HNR.out; have := HML.out; omega)] at this; exact this.symm
    obtain ⟨b', o', dv, p', e1, e2, e3, e4, e5⟩ := HH.out.below hS.bel (k + 2) lr[k] (by simp [hkl])
    simp only [Option.some.injEq, Addr.mk.injEq, and_true] at p'
    obtain ⟨rfl, rfl⟩ := p'
    have htk : lr.take (k + 1) = lr.take k ++ [lr[k]] := List.take_succ_eq_append_getElem hkl
    have hdr : dts lr = true → datOk (lr[k]).2.2 = true := by
      intro h; simp only [dts, List.all_eq_true] at h; exact h _ (List.getElem_mem hkl)
    generalize lr[k] = t at *
    obtain ⟨tk, tn, td⟩ := t
    simp only at *
    subst hpg
    rw [show 0 + (k + 2) * 3 = 6 + k * 3 by omega] at e1 e2 e3
    obtain ⟨dp, dc, rfl, _⟩ := e4.ex
    obtain ⟨Wn, hWn⟩ : ∃ Wn, Wn = wr.alloc (.cells #[.int .u8 (tk.toNat : Int), .int .u8 (tn.toNat : Int), .slice dp td.length dc] 96) := ⟨_, rfl⟩
    have hbn : Below wr.heap.size wr Wn := by rw [hWn]; exact (Below.refl _ _).alloc (Nat.le_refl _) _
    have hnn : Wn.heap[wr.heap.size]? = some (.cells [.int .u8 (tk.toNat : Int), .int .u8 (tn.toNat : Int), .slice dp td.length dc].toArray 96 (0, 0)) := by rw [hWn]; exact heap_alloc_new wr _
    have s0 : Wn.drew.cell? ⟨wr.heap.size, 1, none⟩ = some (.int .u8 (tn.toNat : Int)) ∧ Wn.drew.cell? ⟨wr.heap.size, 2, none⟩ = some (.slice dp td.length dc) := ⟨cell_of _ _ 1 _ _ _ hnn rfl, cell_of _ _ 2 _ _ _ hnn rfl⟩
    by_cases g3 : datOk td = true
    case neg =>
      have g3 : datOk td = false := by simpa using g3
      have hno := readData_no (.slice dp td.length dc) td e5 Wn.drew (e4.below hbn.drew) g3
      have hf : secsOk (l0 :: l1 :: lr) = false := by
        rw [HSO.out]
        have : dts lr = false := by
          by_cases h : dts lr = true
          · have := hdr h; rw [g3] at this; cases this
          · simpa using h
        rw [this]; simp
      have hS2 := hS.below hbn
      clear hS hdt htk hdr
      go_wp2_with fail
      rw [← hWn]
      clear hWn
      have s1 : Wn.drew.cell? ⟨w.heap.size, 3, none⟩ = some bv ∧ Wn.drew.cell? ⟨wr.heap.size, 1, none⟩ = some (.int .u8 (tn.toNat : Int)) ∧ Wn.drew.cell? ⟨wr.heap.size, 2, none⟩ = some (.slice dp td.length dc) := ⟨cell_of Wn _ 3 _ _ _ hS2.b0 rfl, s0⟩
      have HS2 := hid hS2
      clear hS2 s0 hnn hbn
      refine wp_region_held_drew (S := fun w' => w'.cell? ⟨w.heap.size, 3, none⟩ = some bv ∧ w'.cell? ⟨wr.heap.size, 1, none⟩ = some (.int .u8 (tn.toNat : Int)) ∧ w'.cell? ⟨wr.heap.size, 2, none⟩ = some (.slice dp td.length dc)) (by kernel_rfl) s1 (fun hHeld => ?_)
      refine wpAnyH_take (i := 0) (v := ?_) rfl (by kernel_rfl) (by kernel_rfl) (by kernel_rfl) (fun c a w h => put_door 30 (by decide) (by decide) _ h) (Or.inl ⟨by rfl, ?_⟩) hHeld ?_
      rotate_left
      · (intro w hSw; (try dsimp only at hSw); go_simp; try with_reducible rfl)
      simp only [Act.put, List.setIfInBounds_toArray, List.set_cons_zero, List.set_cons_succ]
      refine wpAnyH_take (i := 1) (v := ?_) rfl (by kernel_rfl) (by kernel_rfl) (by kernel_rfl) (fun c a w h => put_door 31 (by decide) (by decide) _ h) (Or.inl ⟨by rfl, ?_⟩) hHeld ?_
      rotate_left
      · (intro w hSw; (try dsimp only at hSw); go_simp; try with_reducible rfl)
      simp only [Act.put, List.setIfInBounds_toArray, List.set_cons_zero, List.set_cons_succ]
      refine wpAnyH_take (i := 2) (v := ?_) rfl (by kernel_rfl) (by kernel_rfl) (by kernel_rfl) (fun c a w h => put_door 32 (by decide) (by decide) _ h) (Or.inl ⟨by rfl, ?_⟩) hHeld ?_
      rotate_left
      · (intro w hSw; (try dsimp only at hSw); go_simp; try with_reducible rfl)
      simp only [Act.put, List.setIfInBounds_toArray, List.set_cons_zero, List.set_cons_succ]
      refine wpAnyH_take (i := 3) (v := ?_) rfl (by kernel_rfl) (by kernel_rfl) (by kernel_rfl) (fun c a w h => put_door 33 (by decide) (by decide) _ h) (Or.inl ⟨by rfl, ?_⟩) hHeld ?_
      rotate_left
      · (intro w hSw; (try dsimp only at hSw); go_simp; try with_reducible rfl)
      simp only [Act.put, List.setIfInBounds_toArray, List.set_cons_zero, List.set_cons_succ]
      refine wpAnyH_take (i := 4) (v := ?_) rfl (by kernel_rfl) (by kernel_rfl) (by kernel_rfl) (fun c a w h => put_door 34 (by decide) (by decide) _ h) (Or.inl ⟨by rfl, ?_⟩) hHeld ?_
      rotate_left
      · (intro w hSw; (try dsimp only at hSw); go_simp; try with_reducible rfl)
      simp only [Act.put, List.setIfInBounds_toArray, List.set_cons_zero, List.set_cons_succ]
      refine wpAnyH_take (i := 5) (v := ?_) rfl (by kernel_rfl) (by kernel_rfl) (by kernel_rfl) (fun c a w h => put_door 35 (by decide) (by decide) _ h) (Or.inl ⟨by rfl, ?_⟩) hHeld ?_
      rotate_left
      · (intro w hSw; (try dsimp only at hSw); go_simp; try with_reducible rfl)
      simp only [Act.put, List.setIfInBounds_toArray, List.set_cons_zero, List.set_cons_succ]
      refine wpAnyH_take (i := 6) (v := ?_) rfl (by kernel_rfl) (by kernel_rfl) (by kernel_rfl) (fun c a w h => put_door 36 (by decide) (by decide) _ h) (Or.inl ⟨by rfl, ?_⟩) hHeld ?_
      rotate_left
      · (intro w hSw; (try dsimp only at hSw); go_simp; try with_reducible rfl)
      simp only [Act.put, List.setIfInBounds_toArray, List.set_cons_zero, List.set_cons_succ]
      refine wpAnyH_ready (rs := [7]) (by kernel_rfl) (by simp) ?_
      refine AllReadyH.cons rfl (fun K hK => ?_) AllReadyH.nil
      go_simp
      refine hno.mono ?_
      rintro e w3 ⟨rfl, rfl⟩
      exact door_panic w Wn.drew entry _ _ rfl rfl _ _ _ _ _ HS2.out.b0 HS2.out.b1 HS2.out.bel.drew hf
    have hrd := readData_ok (.slice dp td.length dc) td e5 Wn.drew (e4.below hbn.drew) g3
    have hS2 := hS.below hbn
    have k3 : Wn.drew.cell? ⟨w.heap.size, 3, none⟩ = some bv := cell_of Wn _ 3 _ _ _ hS2.b0 rfl
    have yn : wrap64 (tn.toNat : Int) = (tn.toNat : Int) := by have := u8lt tn; simp [wrap64]; omega
    have yn2 : IntKind.i64.wrap (tn.toNat : Int) = (tn.toNat : Int) := by have := u8lt tn; simp [IntKind.wrap, IntKind.bits, IntKind.signed]; omega
    have hbk : bks (lr.take (k + 1)) = bks (lr.take k) ++ [((tn.toNat : Int), td)] := by rw [htk]; simp [bks]
    have hdt2 : dts (lr.take (k + 1)) = true := by rw [htk]; simp only [dts, List.all_append, Bool.and_eq_true] at hdt ⊢; exact ⟨hdt, by simp [g3]⟩
    obtain ⟨bp, bc, hbv⟩ := own_form hS.own.banks
    have hpl : prs.length ≤ 16 := by
      have e : prs.length = (bks (lr.take k)).length := by have := congrArg List.length hS.own.map; rw [List.length_map] at this; exact this
      rw [e]; simp [bks]; have := HNR.out; omega
    have HSR := hid hS
    have HBN := hid hbn
    have HNN := hid hnn
    have HBK := hid hbk
    have HDT := hid hdt2
    have HS2 := hid hS2
    clear hS hbn hnn hbk hdt2 hS2 hdt htk hdr e4
    subst hbv
    go_wp2_with fail
    rw [← hWn]
    clear hWn
    refine wp_region_held_drew (S := fun w' => w'.cell? ⟨wr.heap.size, 1, none⟩ = some (.int .u8 (tn.toNat : Int)) ∧ w'.cell? ⟨wr.heap.size, 2, none⟩ = some (.slice dp td.length dc)) (by kernel_rfl) s0 (fun hHeld => ?_)
    refine wpAnyH_take (i := 0) (v := ?_) rfl (by kernel_rfl) (by kernel_rfl) (by kernel_rfl) (fun c a w h => put_door 30 (by decide) (by decide) _ h) (Or.inl ⟨by rfl, ?_⟩) hHeld ?_
    rotate_left
    · (intro w hSw; (try dsimp only at hSw); go_simp; try with_reducible rfl)
    simp only [Act.put, List.setIfInBounds_toArray, List.set_cons_zero, List.set_cons_succ]
    refine wpAnyH_take (i := 2) (v := ?_) rfl (by kernel_rfl) (by kernel_rfl) (by kernel_rfl) (fun c a w h => put_door 32 (by decide) (by decide) _ h) (Or.inl ⟨by rfl, ?_⟩) hHeld ?_
    rotate_left
    · (intro w hSw; (try dsimp only at hSw); go_simp; try with_reducible rfl)
    simp only [Act.put, List.setIfInBounds_toArray, List.set_cons_zero, List.set_cons_succ]
    refine wpAnyH_take (i := 3) (v := ?_) rfl (by kernel_rfl) (by kernel_rfl) (by kernel_rfl) (fun c a w h => put_door 33 (by decide) (by decide) _ h) (Or.inl ⟨by rfl, ?_⟩) hHeld ?_
    rotate_left
    · (intro w hSw; (try dsimp only at hSw); go_simp; try with_reducible rfl)
    simp only [Act.put, List.setIfInBounds_toArray, List.set_cons_zero, List.set_cons_succ]
    refine wpAnyH_take (i := 4) (v := ?_) rfl (by kernel_rfl) (by kernel_rfl) (by kernel_rfl) (fun c a w h => put_door 34 (by decide) (by decide) _ h) (Or.inl ⟨by rfl, ?_⟩) hHeld ?_
    rotate_left
    · (intro w hSw; (try dsimp only at hSw); go_simp; try with_reducible rfl)
    simp only [Act.put, List.setIfInBounds_toArray, List.set_cons_zero, List.set_cons_succ]
    refine wpAnyH_take (i := 5) (v := ?_) rfl (by kernel_rfl) (by kernel_rfl) (by kernel_rfl) (fun c a w h => put_door 35 (by decide) (by decide) _ h) (Or.inl ⟨by rfl, ?_⟩) hHeld ?_
    rotate_left
    · (intro w hSw; (try dsimp only at hSw); go_simp; try with_reducible rfl)
    simp only [Act.put, List.setIfInBounds_toArray, List.set_cons_zero, List.set_cons_succ]
    refine wpAnyH_take (i := 6) (v := ?_) rfl (by kernel_rfl) (by kernel_rfl) (by kernel_rfl) (fun c a w h => put_door 36 (by decide) (by decide) _ h) (Or.inl ⟨by rfl, ?_⟩) hHeld ?_
    rotate_left
    · (intro w hSw; (try dsimp only at hSw); go_simp; try with_reducible rfl)
    simp only [Act.put, List.setIfInBounds_toArray, List.set_cons_zero, List.set_cons_succ]
    refine wpAnyH_ready (rs := [1, 7]) (by kernel_rfl) (by simp) ?_
    refine AllReadyH.cons rfl (fun K hK => ?pA) (AllReadyH.cons rfl (fun K hK => ?pB) AllReadyH.nil)
    case' pA =>
      go_simp
      refine hK.out _ _ s0 (fun hHeld => ?_)
      clear hK K
      refine wpAnyH_ready (rs := [7]) (by kernel_rfl) (by simp) ?_
      refine AllReadyH.cons rfl (fun K hK => ?_) AllReadyH.nil
      go_simp
      refine hrd.mono ?_
      rintro e w2 ⟨u, rfl, hu, hb2⟩
      obtain ⟨up, uc, rfl, _⟩ := hu.sl.ex
      have hn2 := (hb2.block _ (lt_of HNN.out)).trans HNN.out
      have s2 : w2.cell? ⟨wr.heap.size, 1, none⟩ = some (.int .u8 (tn.toNat : Int)) ∧ w2.cell? ⟨wr.heap.size, 2, none⟩ = some (.slice dp td.length dc) := ⟨cell_of _ _ 1 _ _ _ hn2 rfl, cell_of _ _ 2 _ _ _ hn2 rfl⟩
      have k4 : w2.cell? ⟨w.heap.size, 3, none⟩ = some (.slice bp prs.length bc) := below_cell hb2 _ _ k3
      have HU := hid hu
      have HB2 := hid hb2
      have HN2 := hid hn2
      clear hu hb2 hn2
      refine hK.out _ _ s2 (fun hHeld => ?_)
      clear hK K
      refine wpAnyH_take (i := 8) (v := ?_) rfl (by kernel_rfl) (by kernel_rfl) (by kernel_rfl) (fun c a w h => put_door 38 (by decide) (by decide) _ h) (Or.inl ⟨by rfl, ?_⟩) hHeld ?_
      rotate_left
      · (intro w hSw; (try dsimp only at hSw); go_simp; try with_reducible rfl)
      simp only [Act.put, List.setIfInBounds_toArray, List.set_cons_zero, List.set_cons_succ]
      refine wpAnyH_ready (rs := [9]) (by kernel_rfl) (by simp) ?_
      refine AllReadyH.cons rfl (fun K hK => ?_) AllReadyH.nil
      go_simp
      refine hK.out _ _ (by exact ⟨by rw [World.cell?_alloc_some _ _ _ (by rw [s2.1]; rfl)]; exact s2.1, by rw [World.cell?_alloc_some _ _ _ (by rw [s2.2]; rfl)]; exact s2.2⟩) (fun hHeld => ?_)
      clear hK K
    case' pB =>
      go_simp
      refine hrd.mono ?_
      rintro e w2 ⟨u, rfl, hu, hb2⟩
      obtain ⟨up, uc, rfl, _⟩ := hu.sl.ex
      have hn2 := (hb2.block _ (lt_of HNN.out)).trans HNN.out
      have s2 : w2.cell? ⟨wr.heap.size, 1, none⟩ = some (.int .u8 (tn.toNat : Int)) ∧ w2.cell? ⟨wr.heap.size, 2, none⟩ = some (.slice dp td.length dc) := ⟨cell_of _ _ 1 _ _ _ hn2 rfl, cell_of _ _ 2 _ _ _ hn2 rfl⟩
      have k4 : w2.cell? ⟨w.heap.size, 3, none⟩ = some (.slice bp prs.length bc) := below_cell hb2 _ _ k3
      have HU := hid hu
      have HB2 := hid hb2
      have HN2 := hid hn2
      clear hu hb2 hn2
      refine hK.out _ _ s2 (fun hHeld => ?_)
      clear hK K
      refine wpAnyH_take (i := 8) (v := ?_) rfl (by kernel_rfl) (by kernel_rfl) (by kernel_rfl) (fun c a w h => put_door 38 (by decide) (by decide) _ h) (Or.inl ⟨by rfl, ?_⟩) hHeld ?_
      rotate_left
      · (intro w hSw; (try dsimp only at hSw); go_simp; try with_reducible rfl)
      simp only [Act.put, List.setIfInBounds_toArray, List.set_cons_zero, List.set_cons_succ]
      refine wpAnyH_ready (rs := [1, 9]) (by kernel_rfl) (by simp) ?_
      refine AllReadyH.cons rfl (fun K hK => ?pC) (AllReadyH.cons rfl (fun K hK => ?pD) AllReadyH.nil)
    case' pC =>
        go_simp
        refine hK.out _ _ s2 (fun hHeld => ?_)
        clear hK K
        refine wpAnyH_ready (rs := [9]) (by kernel_rfl) (by simp) ?_
        refine AllReadyH.cons rfl (fun K hK => ?_) AllReadyH.nil
        go_simp
        refine hK.out _ _ (by exact ⟨by rw [World.cell?_alloc_some _ _ _ (by rw [s2.1]; rfl)]; exact s2.1, by rw [World.cell?_alloc_some _ _ _ (by rw [s2.2]; rfl)]; exact s2.2⟩) (fun hHeld => ?_)
        clear hK K
    case' pD =>
        go_simp
        refine hK.out _ _ (by exact ⟨by rw [World.cell?_alloc_some _ _ _ (by rw [s2.1]; rfl)]; exact s2.1, by rw [World.cell?_alloc_some _ _ _ (by rw [s2.2]; rfl)]; exact s2.2⟩) (fun hHeld => ?_)
        clear hK K
        have k5 : (w2.alloc (.cells #[.int .i64 (tn.toNat : Int), .slice up td.length uc] 82)).cell? ⟨w.heap.size, 3, none⟩ = some (.slice bp prs.length bc) := by rw [World.cell?_alloc_some _ _ _ (by rw [k4]; rfl)]; exact k4
        refine wpAnyH_ready (rs := [1]) (by kernel_rfl) (by simp) ?_
        refine AllReadyH.cons rfl (fun K hK => ?_) AllReadyH.nil
        go_simp
        refine hK.out _ _ hHeld (fun hHeld => ?_)
        clear hK K
    all_goals
      have hbW : Below wr.heap.size wr (w2.alloc (.cells #[.int .i64 (tn.toNat : Int), .slice up td.length uc] 82)) := by
        have h1 : Below wr.heap.size wr w2 := HBN.out.drew.trans (HB2.out.mono HBN.out.size)
        exact h1.alloc h1.size _
      have hxW : Row (w2.alloc (.cells #[.int .i64 (tn.toNat : Int), .slice up td.length uc] 82)) wr.heap.size (.slice up td.length uc) td := (HU.out.mono HBN.out.size).below ((Below.refl _ _).alloc (Nat.le_refl _) _)
      have hown := (HSR.out.below hbW).own.banks
      have hwz := (HSR.out.below hbW).bel.size
      have hcs : Cs (w2.alloc (.cells #[.int .i64 (tn.toNat : Int), .slice up td.length uc] 82)) (.slice (some ⟨w2.heap.size, 0, none⟩) 1 1) 2 1 (bcs [((((tn.toNat : Int), td), Value.slice up td.length uc) : Bk × Value)]) := by
        refine .inr ⟨⟨w2.heap.size, 0, none⟩, 1, rfl, rfl, ?_, by intro x hx; simp [bcs] at hx; rcases hx with rfl | rfl <;> rfl⟩
        intro j x hj
        have e : (⟨w2.heap.size, 0, none⟩ : Addr).add j = ⟨w2.heap.size, j, none⟩ := by rw [Addr.add_lit]; simp
        rw [e]
        exact cell_of _ _ _ (bcs [((((tn.toNat : Int), td), Value.slice up td.length uc) : Bk × Value)]) _ x (heap_alloc_new w2 _) hj
      have HBW := hid hbW
      have HXW := hid hxW
      clear hbW hxW
      refine wpAnyH_ready (rs := [10]) (by kernel_rfl) (by simp) ?_
      refine AllReadyH.cons rfl (fun K hK => ?_) AllReadyH.nil
      refine step_append_row rfl (.tmp 31) (.tmp 39) 25 82 (.agg #[.int .i64 0, .slice none 0 0]) 2 32 Tryd.underlying25 info82 rfl (by decide) rfl w.heap.size (.slice bp prs.length bc) prs.length (bcs prs) (by simp [Act.eval]) hown (.slice (some ⟨w2.heap.size, 0, none⟩) 1 1) 1 _ (by simp [Act.eval]) hcs (by unfold room; omega) (by unfold maxLen; omega) hwz ?_
      intro v' w4 ho hg
      obtain ⟨z1, z2, z3⟩ := HSR.out.snoc HBW.out _ HXW.out hg ho
      rw [← HBK.out] at z3
      have hn4 : w4.heap[wr.heap.size]? = _ := (hg.block _ (Nat.lt_of_lt_of_le (lt_of HN2.out) (by simp)) (ne_type hown ((Below.heap_alloc w2 _ _ (lt_of HN2.out)).trans HN2.out) (by decide))).trans ((Below.heap_alloc w2 _ _ (lt_of HN2.out)).trans HN2.out)
      have s4 : w4.cell? ⟨wr.heap.size, 1, none⟩ = some (.int .u8 (tn.toNat : Int)) ∧ w4.cell? ⟨wr.heap.size, 2, none⟩ = some (.slice dp td.length dc) := ⟨cell_of _ _ 1 _ _ _ hn4 rfl, cell_of _ _ 2 _ _ _ hn4 rfl⟩
      obtain ⟨vp, vc, hvv⟩ := own_form ho
      have HZ3 := hid z3
      have hne : wr.heap.size ≠ w.heap.size := by have := lt_of HSR.out.b0; omega
      have s5 : (w4.setCell ⟨w.heap.size, 3, none⟩ v').cell? ⟨wr.heap.size, 1, none⟩ = some (.int .u8 (tn.toNat : Int)) ∧ (w4.setCell ⟨w.heap.size, 3, none⟩ v').cell? ⟨wr.heap.size, 2, none⟩ = some (.slice dp td.length dc) := ⟨by rw [cell_far _ _ _ _ _ _ hne]; exact s4.1, by rw [cell_far _ _ _ _ _ _ hne]; exact s4.2⟩
      clear z3 hn4 ho hg hown hcs hwz
      subst hvv
      refine hK.out _ _ s4 (fun hHeld => ?_)
      clear hK K
      simp only [Act.put, List.setIfInBounds_toArray, List.set_cons_zero, List.set_cons_succ]
      refine wpAnyH_take (i := 11) (v := ?_) rfl (by kernel_rfl) (by kernel_rfl) (by kernel_rfl) (fun c a w h => put_door 41 (by decide) (by decide) _ h) (Or.inl ⟨by rfl, ?_⟩) hHeld ?_
      rotate_left
      · (intro w hSw; (try dsimp only at hSw); go_simp; try with_reducible rfl)
      simp only [Act.put, List.setIfInBounds_toArray, List.set_cons_zero, List.set_cons_succ]
      refine wpAnyH_ready (rs := [12]) (by kernel_rfl) (by simp) ?_
      refine AllReadyH.cons rfl (fun K hK => ?_) AllReadyH.nil
      go_simp
      refine hK.out _ _ s5 (fun hHeld => ?_)
      clear hK K
      refine wpAnyH_done (by kernel_rfl) ?_ _
      clear s0 s2 s4 s5 k3 k4 z1 z2
      go_wp2
      go_roundw
      case rel => exact ⟨k + 1, _, _, by omega, by go_num, HDT.out, HZ3.out⟩
      case measure => simp [intOf]; omega
end Go.Proofs.YtmlpijjjkpnioaaDoor.C
