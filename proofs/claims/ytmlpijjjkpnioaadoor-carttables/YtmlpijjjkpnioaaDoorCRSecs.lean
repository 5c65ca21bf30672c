import Derived.Test.YtmlpijjjkpnioaaDoorCRCheck
import Derived.Test.YtmlpijjjkpnioaaDoorCRs
import Derived.Test.YtmlpijjjkpnioaaDoorKRefW
import Derived.Deep.RegionHeldLaw
/-! The reference's sections. -/
namespace Go.Proofs.YtmlpijjjkpnioaaDoor.C
open Go.RowKit
open Go.Proofs
open Go.Proofs.YtmlpijjjkpnioaaDoor.K
set_option linter.unusedVariables false
set_option linter.unusedSimpArgs false
theorem info88 : (Tryd.prog.info? 88).map (fun i => (i.zero, i.size, i.bytes)) = some (some (.agg #[.int .u8 0, .int .u8 0, .slice none 0 0]), 3, 32) := by kernel_rfl
/-- The sections: behind w, in a row of the call's own. -/
structure Sy (w W : World) (v : Value) (prs : List (Sec × Value)) : Prop where
  row : W.ownsRow w.heap.size 88 3 v prs.length (scs prs)
  dat : ∀ x ∈ prs, (Sl w x.2 x.1.2.2 ∨ Row W w.heap.size x.2 x.1.2.2) ∧ x.1.2.2.length ≤ room
  bel : Below w.heap.size w W
theorem Sy.sl {w W : World} {v : Value} {prs : List (Sec × Value)} (h : Sy w W v prs) (x : Sec × Value) (hx : x ∈ prs) : Sl W x.2 x.1.2.2 := by
  rcases (h.dat x hx).1 with e | e
  · exact e.below h.bel
  · exact e.sl
theorem Sy.below {w W W' : World} {v : Value} {prs : List (Sec × Value)} (h : Sy w W v prs) (b : Below W.heap.size W W') : Sy w W' v prs :=
  ⟨own_kept h.row fun g _ hg => b.block g hg, fun x hx => ⟨(h.dat x hx).1.imp_right fun r => r.below b, (h.dat x hx).2⟩, h.bel.trans (b.mono h.bel.size)⟩
theorem Sy.ses {w W : World} {v : Value} {prs : List (Sec × Value)} (h : Sy w W v prs) : ∃ p c, v = .slice p prs.length c ∧ SeS W p (prs.map Prod.fst) := by
  rcases h.row.2 with ⟨rfl, e⟩ | ⟨g, cap, cur, rfl, _⟩
  · have : prs = [] := List.eq_nil_of_length_eq_zero e
    subst this
    exact ⟨none, 0, rfl, fun i t ht => by simp at ht⟩
  · refine ⟨_, cap, rfl, fun i t ht => ?_⟩
    rw [List.getElem?_map, Option.map_eq_some_iff] at ht
    obtain ⟨x, hx, rfl⟩ := ht
    obtain ⟨k1, k2, k3⟩ := scs_get prs i x hx
    have c1 := World.ownsRow.cells h.row (g := g) rfl _ _ k1
    have c2 := World.ownsRow.cells h.row (g := g) rfl _ _ k2
    have c3 := World.ownsRow.cells h.row (g := g) rfl _ _ k3
    rw [Addr.add_lit] at c1 c2 c3
    exact ⟨g, 0, x.2, rfl, c1, c2, c3, h.sl x (List.mem_of_getElem? hx), (h.dat x (List.mem_of_getElem? hx)).2⟩
/-- One section more, whose data the caller had. -/
theorem Sy.snoc {w W W1 W2 : World} {v v' : Value} {prs : List (Sec × Value)} (h : Sy w W v prs) (hb : Below W.heap.size W W1) (x : Sec × Value) (hx : Sl w x.2 x.1.2.2) (hl : x.1.2.2.length ≤ room) (hg : Grew W1 W2 v v')
    (hr : W2.ownsRow w.heap.size 88 3 v' (prs.length + 1) (scs prs ++ scs [x])) : Sy w W2 v' (prs ++ [x]) := by
  have h1 := h.below hb
  have hb2 : Below w.heap.size w W2 := hg.belowAll (fun g e => (h.row.lt g e).1) h1.bel (Nat.le_refl _)
  have nv : ∀ k cur, W1.heap[k]? = some (.cells cur 5 (0, 0)) → some k ≠ v.ownBlock := by
    intro k cur e1 e2
    obtain ⟨cur2, e3⟩ := own_block h1.row k e2.symm
    rw [e1] at e3
    simp at e3
  refine ⟨by rw [List.length_append, scs_append]; exact hr, fun y hy => ?_, hb2⟩
  rw [List.mem_append] at hy
  rcases hy with hy | hy
  · refine ⟨?_, (h.dat y hy).2⟩
    rcases (h1.dat y hy).1 with e | e
    · exact .inl e
    · refine .inr (e.kept fun g eg hgl => ?_)
      obtain ⟨cur, e1⟩ := own_block (show W1.ownsRow w.heap.size 5 1 y.2 _ _ from e) g eg
      exact hg.block g hgl (nv g cur e1)
  · simp only [List.mem_singleton] at hy
    subst hy
    exact ⟨.inl hx, hl⟩
set_option maxHeartbeats 4000000
set_option maxRecDepth 100000
theorem app_keep {W W' : World} {B : Nat} {v v' : Value} {l : List UInt8} (hr : Row W B v l) {k : Nat} {cur : Array Value} {t : TypeId} {fr : Nat × Nat} (hk : W.heap[k]? = some (.cells cur t fr)) (ht : t ≠ 5) (hg : Grew W W' v v') : W'.heap[k]? = some (.cells cur t fr) :=
  (hg.block k (lt_of hk) (ne_type (show W.ownsRow _ 5 1 _ _ _ from hr) hk ht)).trans hk
theorem rsections_any (v : Value) (c : Ct) (ep : Option Addr) (ec : Nat) (bp : Option Addr) (bc : Nat) (kv : Value) (w : World) (h : IsC w v c ep ec bp bc kv) (hm : may c = true) :
    Calls Tryd.prog 47 #[v] w fun e w' => ∃ u prs, e = .returned u ∧ prs.map Prod.fst = secs c ∧ Sy w w' u prs := by
  obtain ⟨kp, kc, rfl, _⟩ := h.code.ex
  have hv := h.val
  subst hv
  unfold cv
  obtain ⟨m1, m2, m3⟩ := may_parts hm
  have hmb := may_many hm
  simp only [effsB, Bool.and_eq_true, decide_eq_true_eq] at m2
  obtain ⟨hm1, hm2⟩ := m2
  have hh := eff_heights c.effs _ hm2
  have hff := h.fit.effs
  obtain ⟨wb, hwb⟩ : ∃ wb, wb = w.alloc (.cells #[.slice kp c.code.length kc, .int .u16 (c.entry : Int), .slice ep c.effs.length ec, .slice bp c.banks.length bc] 27) := ⟨_, rfl⟩
  have hBb : Below w.heap.size w wb := by rw [hwb]; exact (Below.refl _ _).alloc (Nat.le_refl _) _
  have hNb : wb.heap[w.heap.size]? = some (.cells [.slice kp c.code.length kc, .int .u16 (c.entry : Int), .slice ep c.effs.length ec, .slice bp c.banks.length bc].toArray 27 (0, 0)) := by rw [hwb]; exact heap_alloc_new w _
  have HN := hid hNb
  have HB := hid hBb
  have HI := hid h
  have HM3 := hid m3
  have HHH := hid hh
  have HFF := hid hff
  clear hNb hBb h m1 hm hm2 hh hff
  go_enter Tryd.func47, Tryd.ntmps47
  go_wp2_with fail
  rw [← hwb]
  clear hwb
  go_loopw [3, 4] (fun u i wr => ∃ (k : Nat), k ≤ c.effs.length ∧ i = .int .i64 (k : Int) ∧ Row wr w.heap.size u (effB (c.effs.take k)) ∧ wr.heap[w.heap.size]? = some (.cells [.slice kp c.code.length kc, .int .u16 (c.entry : Int), .slice ep c.effs.length ec, .slice bp c.banks.length bc].toArray 27 (0, 0)) ∧ Below w.heap.size w wr) (fun _ i _ => c.effs.length - (intOf i).toNat)
  case atStart => exact ⟨0, by omega, rfl, row_nil _ _, HN.out, HB.out⟩
  case round =>
    clear HN HB
    obtain ⟨k, hk, rfl, hR, hN, hB⟩ := hrel
    have hlen : (effB (c.effs.take k)).length ≤ 49152 := by rw [effB_len, List.length_take]; omega
    have a2 := cell_of wr w.heap.size 2 _ _ _ hN rfl
    by_cases hlt : k < c.effs.length
    case neg =>
      obtain rfl : k = c.effs.length := by omega
      rw [List.take_length] at hR
      obtain ⟨up, uc, huu, _⟩ := hR.sl.ex
      subst huu
      have a0 := cell_of wr w.heap.size 0 _ _ _ hN rfl
      have a3 := cell_of wr w.heap.size 3 _ _ _ hN rfl
      obtain ⟨W1, hW1⟩ : ∃ W, W = wr.alloc (.cells #[.int .u8 1, .int .u8 0, .slice kp c.code.length kc, .int .u8 2, .int .u8 0, .slice up (effB c.effs).length uc] 88) := ⟨_, rfl⟩
      have hb1 : Below wr.heap.size wr W1 := by rw [hW1]; exact (Below.refl _ _).alloc (Nat.le_refl _) _
      have hx0 : Sy w W1 (.slice (some ⟨wr.heap.size, 0, none⟩) 2 2) [((1, 0, c.code), .slice kp c.code.length kc), ((2, 0, effB c.effs), .slice up (effB c.effs).length uc)] := by
        refine ⟨⟨rfl, .inr ⟨wr.heap.size, 2, _, rfl, hB.size, (by rw [hW1]; exact heap_alloc_new wr _), Nat.le_refl _, by simp [maxLen], rfl, rfl⟩⟩, ?_, hB.trans (hb1.mono hB.size)⟩
        intro x hx
        simp only [List.mem_cons, List.not_mem_nil, or_false] at hx
        rcases hx with rfl | rfl
        · exact ⟨.inl HI.out.code, HI.out.clen⟩
        · refine ⟨.inr (hR.below hb1), ?_⟩
          simp only [effB_len]; unfold room; omega
      have hN1 := (hb1.block _ (lt_of hN)).trans hN
      have HX0 := hid hx0
      have HN1 := hid hN1
      clear hx0 hN1 hb1 hR hN hB hlen
      go_wp2_with fail
      rw [← hW1]
      clear hW1 a0 a2 a3
      go_loopw [6, 7] (fun v i wz => ∃ (k : Nat) (prs : List (Sec × Value)), k ≤ c.banks.length ∧ i = .int .i64 (k : Int) ∧ prs.map Prod.fst = (1, 0, c.code) :: (2, 0, effB c.effs) :: (c.banks.take k).map bsec ∧ Sy w wz v prs ∧ wz.heap[w.heap.size]? = some (.cells [.slice kp c.code.length kc, .int .u16 (c.entry : Int), .slice ep c.effs.length ec, .slice bp c.banks.length bc].toArray 27 (0, 0))) (fun _ i _ => c.banks.length - (intOf i).toNat)
      case atStart => exact ⟨0, _, by omega, rfl, rfl, HX0.out, HN1.out⟩
      case round =>
        clear HX0 HN1
        obtain ⟨k, prs, hk, rfl, hP, hX, hN⟩ := hrel
        have HP := hid hP
        have a3 := cell_of wr w.heap.size 3 _ _ _ hN rfl
        clear hP
        by_cases hlt : k < c.banks.length
        case neg =>
          obtain rfl : k = c.banks.length := by omega
          have HX := hid hX
          obtain ⟨vp, vc, hvv, _⟩ := hX.ses
          subst hvv
          clear hX
          go_wp2
          go_ret
          exact ⟨_, prs, rfl, by rw [HP.out, List.take_length]; rfl, HX.out⟩
        have i1 : (k : Int) < c.banks.length := by omega
        obtain ⟨b, ob, dv, rfl, e1, e2, e3w, e4⟩ := HI.out.banks k c.banks[k] (List.getElem?_eq_getElem hlt)
        have hnum := bank_at c.banks (-1) (by omega) HM3.out k hlt
        have htk : (c.banks.take (k + 1)).map bsec = (c.banks.take k).map bsec ++ [bsec c.banks[k]] := by rw [List.take_succ_eq_append_getElem hlt, List.map_append]; rfl
        generalize c.banks[k] = t at *
        obtain ⟨n, l⟩ := t
        simp only [bsec] at *
        obtain ⟨nn, rfl⟩ : ∃ m : Nat, n = (m : Int) := ⟨n.toNat, by omega⟩
        simp only [Int.toNat_natCast] at htk
        have hb8 : ((by8 nn).toNat : Int) = (nn : Int) := by rw [by8_nat]; omega
        have x1 : (nn : Int) % 256 = nn := by omega
        have x2 : IntKind.u8.wrap (nn : Int) = nn := by simp [IntKind.wrap, IntKind.bits, IntKind.signed]; omega
        obtain ⟨dp, dc, rfl, _⟩ := e3w.ex
        obtain ⟨W3, hW3⟩ : ∃ W3, W3 = (wr.alloc (.cells #[.int .u8 3, .int .u8 (nn : Int), .slice dp l.length dc] 88)).drew := ⟨_, rfl⟩
        have hb3 : Below wr.heap.size wr W3 := by rw [hW3]; exact ((Below.refl _ _).alloc (Nat.le_refl _) _).drew
        have hown := (hX.below hb3).row
        have hcs : Cs W3 (.slice (some ⟨wr.heap.size, 0, none⟩) 1 1) 3 1 (scs [(((3, by8 nn, l), Value.slice dp l.length dc) : Sec × Value)]) := by
          refine .inr ⟨⟨wr.heap.size, 0, none⟩, 1, rfl, rfl, ?_, scs_one _ (by intro x hx; simp at hx; subst hx; rfl)⟩
          intro j x hj
          have hn : W3.heap[wr.heap.size]? = some (.cells (scs [(((3, by8 nn, l), Value.slice dp l.length dc) : Sec × Value)]).toArray 88 (0, 0)) := by
            rw [hW3]
            have := heap_alloc_new wr (.cells #[.int .u8 3, .int .u8 (nn : Int), .slice dp l.length dc] 88)
            simp only [scs, hb8]
            exact this
          have e : (⟨wr.heap.size, 0, none⟩ : Addr).add j = ⟨wr.heap.size, j, none⟩ := by rw [Addr.add_lit]; simp
          rw [e]
          exact cell_of _ _ _ _ _ x hn hj
        have hlp : prs.length = 2 + k := by have := congrArg List.length HP.out; simp at this; omega
        have b1 : (prs.length + 1) * 32 ≤ room := by rw [hlp]; unfold room; omega
        have b2 : prs.length + 1 ≤ maxLen := by rw [hlp]; unfold maxLen; omega
        have hwz : w.heap.size ≤ W3.heap.size := Nat.le_trans hX.bel.size hb3.size
        obtain ⟨vp, vc, hvv, _⟩ := hX.ses
        have hN3 := (hb3.block _ (lt_of hN)).trans hN
        have s0 : wr.drew.cell? ⟨w.heap.size, 3, none⟩ = some (.slice (some ⟨b, ob, none⟩) c.banks.length bc) ∧ wr.drew.cell? ⟨b, ob + k * 2, none⟩ = some (.int .i64 (nn : Int)) ∧ wr.drew.cell? ⟨b, ob + k * 2 + 1, none⟩ = some (.slice dp l.length dc) := ⟨cell_of wr _ 3 _ _ _ hN rfl, below_cell hX.bel _ _ e1, below_cell hX.bel _ _ e2⟩
        have s1 : W3.cell? ⟨w.heap.size, 3, none⟩ = some (.slice (some ⟨b, ob, none⟩) c.banks.length bc) ∧ W3.cell? ⟨b, ob + k * 2, none⟩ = some (.int .i64 (nn : Int)) ∧ W3.cell? ⟨b, ob + k * 2 + 1, none⟩ = some (.slice dp l.length dc) := ⟨cell_of _ _ 3 _ _ _ hN3 rfl, below_cell (hX.below hb3).bel _ _ e1, below_cell (hX.below hb3).bel _ _ e2⟩
        have hend : ∀ v' w4, w4.ownsRow w.heap.size 88 3 v' (prs.length + 1) (scs prs ++ scs [(((3, by8 nn, l), Value.slice dp l.length dc) : Sec × Value)]) → Grew W3 w4 (.slice vp prs.length vc) v' →
            ((prs ++ [(((3, by8 nn, l), Value.slice dp l.length dc) : Sec × Value)]).map Prod.fst = (1, 0, c.code) :: (2, 0, effB c.effs) :: (c.banks.take (k + 1)).map bsec ∧ Sy w w4 v' (prs ++ [(((3, by8 nn, l), Value.slice dp l.length dc) : Sec × Value)]) ∧ w4.heap[w.heap.size]? = some (.cells [.slice kp c.code.length kc, .int .u16 (c.entry : Int), .slice ep c.effs.length ec, .slice (some ⟨b, ob, none⟩) c.banks.length bc].toArray 27 (0, 0))) ∧ (w4.cell? ⟨w.heap.size, 3, none⟩ = some (.slice (some ⟨b, ob, none⟩) c.banks.length bc) ∧ w4.cell? ⟨b, ob + k * 2, none⟩ = some (.int .i64 (nn : Int)) ∧ w4.cell? ⟨b, ob + k * 2 + 1, none⟩ = some (.slice dp l.length dc)) := by
          intro v' w4 ho hg
          rw [← hvv] at hg
          have y := hX.snoc hb3 _ e3w e4 hg ho
          have hN4 := (hg.block _ (lt_of hN3) (ne_type hown hN3 (by decide))).trans hN3
          refine ⟨⟨?_, y, hN4⟩, cell_of _ _ 3 _ _ _ hN4 rfl, below_cell y.bel _ _ e1, below_cell y.bel _ _ e2⟩
          rw [List.map_append, HP.out, htk]; rfl
        rw [hvv] at hown
        subst hvv
        have HE := hid hend
        clear hend hX hb3 htk hlp HP e3w hb8 hN hN3 e1 e2
        go_wp2_with fail
        clear a3
        refine wp_region_held_drew (S := fun w' => w'.cell? ⟨w.heap.size, 3, none⟩ = some (.slice (some ⟨b, ob, none⟩) c.banks.length bc) ∧ w'.cell? ⟨b, ob + k * 2, none⟩ = some (.int .i64 (nn : Int)) ∧ w'.cell? ⟨b, ob + k * 2 + 1, none⟩ = some (.slice dp l.length dc)) (by kernel_rfl) s0 (fun hHeld => ?_)
        refine wpAnyH_take (i := 0) (v := ?_) rfl (by kernel_rfl) (by kernel_rfl) (by kernel_rfl) (fun c a w h => h) (Or.inl ⟨by rfl, ?_⟩) hHeld ?_
        rotate_left
        · (intro w hSw; (try dsimp only at hSw); go_simp; try with_reducible rfl)
        simp only [Act.put, List.setIfInBounds_toArray, List.set_cons_zero, List.set_cons_succ]
        refine wpAnyH_take (i := 1) (v := ?_) rfl (by kernel_rfl) (by kernel_rfl) (by kernel_rfl) (fun c a w h => h) (Or.inl ⟨by rfl, ?_⟩) hHeld ?_
        rotate_left
        · (intro w hSw; (try dsimp only at hSw); go_simp; try with_reducible rfl)
        simp only [Act.put, List.setIfInBounds_toArray, List.set_cons_zero, List.set_cons_succ]
        refine wpAnyH_take (i := 2) (v := ?_) rfl (by kernel_rfl) (by kernel_rfl) (by kernel_rfl) (fun c a w h => h) (Or.inl ⟨by rfl, ?_⟩) hHeld ?_
        rotate_left
        · (intro w hSw; (try dsimp only at hSw); go_simp; try with_reducible rfl)
        simp only [Act.put, List.setIfInBounds_toArray, List.set_cons_zero, List.set_cons_succ]
        refine wpAnyH_take (i := 3) (v := ?_) rfl (by kernel_rfl) (by kernel_rfl) (by kernel_rfl) (fun c a w h => h) (Or.inl ⟨by rfl, ?_⟩) hHeld ?_
        rotate_left
        · (intro w hSw; (try dsimp only at hSw); go_simp; try with_reducible rfl)
        simp only [Act.put, List.setIfInBounds_toArray, List.set_cons_zero, List.set_cons_succ]
        refine wpAnyH_take (i := 4) (v := ?_) rfl (by kernel_rfl) (by kernel_rfl) (by kernel_rfl) (fun c a w h => h) (Or.inl ⟨by rfl, ?_⟩) hHeld ?_
        rotate_left
        · (intro w hSw; (try dsimp only at hSw); go_simp; try with_reducible rfl)
        simp only [Act.put, List.setIfInBounds_toArray, List.set_cons_zero, List.set_cons_succ]
        refine wpAnyH_take (i := 5) (v := ?_) rfl (by kernel_rfl) (by kernel_rfl) (by kernel_rfl) (fun c a w h => h) (Or.inl ⟨by rfl, ?_⟩) hHeld ?_
        rotate_left
        · (intro w hSw; (try dsimp only at hSw); go_simp; try with_reducible rfl)
        simp only [Act.put, List.setIfInBounds_toArray, List.set_cons_zero, List.set_cons_succ]
        refine wpAnyH_take (i := 6) (v := ?_) rfl (by kernel_rfl) (by kernel_rfl) (by kernel_rfl) (fun c a w h => h) (Or.inl ⟨by rfl, ?_⟩) hHeld ?_
        rotate_left
        · (intro w hSw; (try dsimp only at hSw); go_simp; try with_reducible rfl)
        simp only [Act.put, List.setIfInBounds_toArray, List.set_cons_zero, List.set_cons_succ]
        refine wpAnyH_take (i := 7) (v := ?_) rfl (by kernel_rfl) (by kernel_rfl) (by kernel_rfl) (fun c a w h => h) (Or.inl ⟨by rfl, ?_⟩) hHeld ?_
        rotate_left
        · (intro w hSw; (try dsimp only at hSw); go_simp; try with_reducible rfl)
        simp only [Act.put, List.setIfInBounds_toArray, List.set_cons_zero, List.set_cons_succ]
        refine wpAnyH_take (i := 8) (v := ?_) rfl (by kernel_rfl) (by kernel_rfl) (by kernel_rfl) (fun c a w h => h) (Or.inl ⟨by rfl, ?_⟩) hHeld ?_
        rotate_left
        · (intro w hSw; (try dsimp only at hSw); go_simp; try with_reducible rfl)
        simp only [Act.put, List.setIfInBounds_toArray, List.set_cons_zero, List.set_cons_succ]
        refine wpAnyH_take (i := 9) (v := ?_) rfl (by kernel_rfl) (by kernel_rfl) (by kernel_rfl) (fun c a w h => h) (Or.inl ⟨by rfl, ?_⟩) hHeld ?_
        rotate_left
        · (intro w hSw; (try dsimp only at hSw); go_simp; try with_reducible rfl)
        simp only [Act.put, List.setIfInBounds_toArray, List.set_cons_zero, List.set_cons_succ]
        refine wpAnyH_take (i := 10) (v := ?_) rfl (by kernel_rfl) (by kernel_rfl) (by kernel_rfl) (fun c a w h => h) (Or.inl ⟨by rfl, ?_⟩) hHeld ?_
        rotate_left
        · (intro w hSw; (try dsimp only at hSw); go_simp; try with_reducible rfl)
        simp only [Act.put, List.setIfInBounds_toArray, List.set_cons_zero, List.set_cons_succ]
        refine wpAnyH_take (i := 11) (v := ?_) rfl (by kernel_rfl) (by kernel_rfl) (by kernel_rfl) (fun c a w h => h) (Or.inl ⟨by rfl, ?_⟩) hHeld ?_
        rotate_left
        · (intro w hSw; (try dsimp only at hSw); go_simp; try with_reducible rfl)
        simp only [Act.put, List.setIfInBounds_toArray, List.set_cons_zero, List.set_cons_succ]
        refine wpAnyH_take (i := 12) (v := ?_) rfl (by kernel_rfl) (by kernel_rfl) (by kernel_rfl) (fun c a w h => h) (Or.inl ⟨by rfl, ?_⟩) hHeld ?_
        rotate_left
        · (intro w hSw; (try dsimp only at hSw); go_simp; try with_reducible rfl)
        simp only [Act.put, List.setIfInBounds_toArray, List.set_cons_zero, List.set_cons_succ]
        refine wpAnyH_take (i := 13) (v := ?_) rfl (by kernel_rfl) (by kernel_rfl) (by kernel_rfl) (fun c a w h => h) (Or.inl ⟨by rfl, ?_⟩) hHeld ?_
        rotate_left
        · (intro w hSw; (try dsimp only at hSw); go_simp; try with_reducible rfl)
        simp only [Act.put, List.setIfInBounds_toArray, List.set_cons_zero, List.set_cons_succ]
        refine wpAnyH_take (i := 14) (v := ?_) rfl (by kernel_rfl) (by kernel_rfl) (by kernel_rfl) (fun c a w h => h) (Or.inl ⟨by rfl, ?_⟩) hHeld ?_
        rotate_left
        · (intro w hSw; (try dsimp only at hSw); go_simp; try with_reducible rfl)
        simp only [Act.put, List.setIfInBounds_toArray, List.set_cons_zero, List.set_cons_succ]
        refine wpAnyH_ready (rs := [15]) (by kernel_rfl) (by simp) ?_
        refine AllReadyH.cons rfl (fun K hK => ?_) AllReadyH.nil
        go_simp
        rw [← hW3]
        refine hK.out _ _ s1 (fun hHeld => ?_)
        clear hK K
        refine wpAnyH_ready (rs := [16]) (by kernel_rfl) (by simp) ?_
        refine AllReadyH.cons rfl (fun K hK => ?_) AllReadyH.nil
        refine step_append_row rfl (.tmp 51) (.tmp 66) 86 88 (.agg #[.int .u8 0, .int .u8 0, .slice none 0 0]) 3 32 Tryd.underlying86 info88 rfl (by decide) rfl w.heap.size (.slice vp prs.length vc) prs.length (scs prs) (by simp [Act.eval]) hown (.slice (some ⟨wr.heap.size, 0, none⟩) 1 1) 1 _ (by simp [Act.eval]) hcs b1 b2 hwz ?_
        intro v' w4 ho hg
        obtain ⟨⟨hP2, hX2, hN4⟩, s4⟩ := HE.out v' w4 ho hg
        obtain ⟨vp2, vc2, hvv2, _⟩ := hX2.ses
        have HZ := hid (And.intro hP2 (And.intro hX2 hN4))
        subst hvv2
        clear hP2 hX2 hN4 ho hg HE hown hcs
        refine hK.out _ _ s4 (fun hHeld => ?_)
        clear hK K
        simp only [Act.put, List.setIfInBounds_toArray, List.set_cons_zero, List.set_cons_succ]
        refine wpAnyH_ready (rs := [17]) (by kernel_rfl) (by simp) ?_
        refine AllReadyH.cons rfl (fun K hK => ?_) AllReadyH.nil
        go_simp
        refine hK.out _ _ s4 (fun hHeld => ?_)
        clear hK K
        refine wpAnyH_done (by kernel_rfl) ?_ _
        clear s0 s1 s4 hHeld
        go_wp2
        go_roundw
        case rel =>
          exact ⟨k + 1, _, by omega, by go_num, HZ.out.1, by have := HZ.out.2.1; rw [List.length_append] at this; exact this, HZ.out.2.2⟩
        case measure => simp [intOf]; omega
    have i1 : (k : Int) < c.effs.length := by omega
    obtain ⟨b, ob, hep, e1, e2, e3⟩ := HI.out.effs.below hB k c.effs[k] (List.getElem?_eq_getElem hlt)
    have hx := HHH.out c.effs[k] (List.getElem_mem hlt)
    have hy := HFF.out c.effs[k] (List.getElem_mem hlt)
    have htk := effB_take c.effs k hlt
    rw [hgt_iff, hgt_iff] at hx
    generalize c.effs[k] = t at *
    obtain ⟨a, i, o⟩ := t
    simp only at *
    obtain ⟨ii, rfl⟩ : ∃ n : Nat, i = (n : Int) := ⟨i.toNat, by omega⟩
    obtain ⟨oo, rfl⟩ : ∃ n : Nat, o = (n : Int) := ⟨o.toNat, by omega⟩
    simp only [Int.toNat_natCast] at htk
    subst hep
    have hbA : Below wr.heap.size wr (wr.alloc (.cells #[.int .u16 (a : Int), .int .i64 (ii : Int), .int .i64 (oo : Int)] 80)) := (Below.refl _ _).alloc (Nat.le_refl _) _
    have hn0 : (wr.alloc (.cells #[.int .u16 (a : Int), .int .i64 (ii : Int), .int .i64 (oo : Int)] 80)).heap[wr.heap.size]? = some (.cells [.int .u16 (a : Int), .int .i64 (ii : Int), .int .i64 (oo : Int)].toArray 80 (0, 0)) := heap_alloc_new wr _
    have l1 := low_any a (by omega) 2 (by omega) (wr.alloc (.cells #[.int .u16 (a : Int), .int .i64 (ii : Int), .int .i64 (oo : Int)] 80))
    have y2 : (ii : Int) % 18446744073709551616 = ii := by omega
    have y3 : (oo : Int) % 18446744073709551616 = oo := by omega
    have HX := hid hx
    have HT := hid htk
    have HRA := hid (hR.below hbA)
    have HNA := hid ((hbA.block _ (lt_of hN)).trans hN)
    have HBA := hid (hB.trans (hbA.mono hB.size))
    have HN0 := hid hn0
    obtain ⟨up, uc, huu, _⟩ := hR.sl.ex
    subst huu
    clear hR hN hB hbA hn0 htk hx
    go_wp2_with fail
    refine l1.mono ?_
    rintro e w1 ⟨u1, rfl, hu1, hb1⟩
    have hr1 := HRA.out.below hb1
    have hn1 := (hb1.block _ (lt_of HNA.out)).trans HNA.out
    have hl1 := (hb1.block _ (lt_of HN0.out)).trans HN0.out
    have hB1 := HBA.out.trans (hb1.mono HBA.out.size)
    have hs1 := hu1.sl
    obtain ⟨up1, uc1, huu1, _⟩ := hu1.sl.ex
    subst huu1
    clear l1 hb1 hu1
    go_wp2_with (first | (at_builtin; refine wpList_append_bytes _ rfl _ _ rfl w.heap.size _ (effB (c.effs.take k)) rfl hr1 _ (low 2 a) rfl hs1 (by simp only [List.length_append, low_len]; unfold room; omega) hB1.size ?_))
    intro v1 w1b hr1b hg1
    obtain ⟨L1, hL1⟩ : ∃ L, L = effB (c.effs.take k) ++ low 2 a := ⟨_, rfl⟩
    rw [← hL1] at hr1b
    have z1 : L1.length ≤ 49154 := by rw [hL1]; simp only [List.length_append, low_len]; omega
    have HQ1 := hid hL1
    clear hL1
    have HR1 := hid hr1b
    have HN1 := hid (app_keep hr1 hn1 (by decide) hg1)
    have HL1 := hid (app_keep hr1 hl1 (by decide) hg1)
    have HB1 := hid (hg1.belowAll (fun g e => (hr1.lt g e).1) hB1 (Nat.le_refl _))
    obtain ⟨vp1, vc1, hvv1, _⟩ := hr1b.sl.ex
    generalize L1.length = nn1 at hvv1
    subst hvv1
    clear hr1 hn1 hl1 hB1 hs1 hr1b hg1
    have k2 := cell_of w1b wr.heap.size 1 _ _ _ HL1.out rfl
    have l2 := low_any ii (by have := HX.out; omega) 2 (by omega) w1b
    go_wp2_with fail
    refine l2.mono ?_
    rintro e w2 ⟨u2, rfl, hu2, hb2⟩
    have hr2 := HR1.out.below hb2
    have hn2 := (hb2.block _ (lt_of HN1.out)).trans HN1.out
    have hl2 := (hb2.block _ (lt_of HL1.out)).trans HL1.out
    have hB2 := HB1.out.trans (hb2.mono HB1.out.size)
    have hs2 := hu2.sl
    obtain ⟨up2, uc2, huu2, _⟩ := hu2.sl.ex
    subst huu2
    clear l2 hb2 hu2
    go_wp2_with (first | (at_builtin; refine wpList_append_bytes _ rfl _ _ rfl w.heap.size _ L1 rfl hr2 _ (low 2 ii) rfl hs2 (by simp only [List.length_append, low_len]; unfold room; omega) hB2.size ?_))
    intro v2 w2b hr2b hg2
    obtain ⟨L2, hL2⟩ : ∃ L, L = L1 ++ low 2 ii := ⟨_, rfl⟩
    rw [← hL2] at hr2b
    have z2 : L2.length ≤ 49156 := by rw [hL2]; simp only [List.length_append, low_len]; omega
    have HQ2 := hid hL2
    clear hL2
    have HR2 := hid hr2b
    have HN2 := hid (app_keep hr2 hn2 (by decide) hg2)
    have HL2 := hid (app_keep hr2 hl2 (by decide) hg2)
    have HB2 := hid (hg2.belowAll (fun g e => (hr2.lt g e).1) hB2 (Nat.le_refl _))
    obtain ⟨vp2, vc2, hvv2, _⟩ := hr2b.sl.ex
    generalize L2.length = nn2 at hvv2
    subst hvv2
    clear hr2 hn2 hl2 hB2 hs2 hr2b hg2
    have k3 := cell_of w2b wr.heap.size 2 _ _ _ HL2.out rfl
    have l3 := low_any oo (by have := HX.out; omega) 2 (by omega) w2b
    go_wp2_with fail
    refine l3.mono ?_
    rintro e w3 ⟨u3, rfl, hu3, hb3⟩
    have hr3 := HR2.out.below hb3
    have hn3 := (hb3.block _ (lt_of HN2.out)).trans HN2.out
    have hl3 := (hb3.block _ (lt_of HL2.out)).trans HL2.out
    have hB3 := HB2.out.trans (hb3.mono HB2.out.size)
    have hs3 := hu3.sl
    obtain ⟨up3, uc3, huu3, _⟩ := hu3.sl.ex
    subst huu3
    clear l3 hb3 hu3
    go_wp2_with (first | (at_builtin; refine wpList_append_bytes _ rfl _ _ rfl w.heap.size _ L2 rfl hr3 _ (low 2 oo) rfl hs3 (by simp only [List.length_append, low_len]; unfold room; omega) hB3.size ?_))
    intro v3 w3b hr3b hg3
    obtain ⟨L3, hL3⟩ : ∃ L, L = L2 ++ low 2 oo := ⟨_, rfl⟩
    rw [← hL3] at hr3b
    have z3 : L3.length ≤ 49158 := by rw [hL3]; simp only [List.length_append, low_len]; omega
    have HQ3 := hid hL3
    clear hL3
    have HR3 := hid hr3b
    have HN3 := hid (app_keep hr3 hn3 (by decide) hg3)
    have HL3 := hid (app_keep hr3 hl3 (by decide) hg3)
    have HB3 := hid (hg3.belowAll (fun g e => (hr3.lt g e).1) hB3 (Nat.le_refl _))
    obtain ⟨vp3, vc3, hvv3, _⟩ := hr3b.sl.ex
    generalize L3.length = nn3 at hvv3
    subst hvv3
    clear hr3 hn3 hl3 hB3 hs3 hr3b hg3
    have HE : Hid (Row w3b w.heap.size (.slice vp3 nn3 vc3) (effB (c.effs.take (k + 1)))) := hid (by rw [HT.out]; have := HR3.out; rw [HQ3.out, HQ2.out, HQ1.out] at this; simpa only [List.append_assoc] using this)
    go_wp2
    go_roundw
    case rel =>
      first
        | exact ⟨k + 1, by omega, by go_num, HE.out, HN3.out, HB3.out⟩
        | ((repeat apply Exists.intro); refine ⟨⟨k + 1, by omega, ?_, HE.out, HN3.out, HB3.out⟩, rfl⟩; go_num)
    case measure => simp [intOf]; omega
end Go.Proofs.YtmlpijjjkpnioaaDoor.C
