import Derived.Test.YtmlpijjjkpnioaaDoorCBytes
/-! cut: a cartridge's sections. -/
namespace Go.Proofs.YtmlpijjjkpnioaaDoor.C
open Go.RowKit
open Go.Proofs
open Go.Proofs.YtmlpijjjkpnioaaDoor.K
set_option linter.unusedVariables false
set_option linter.unusedSimpArgs false
theorem info96 : (Tryd.prog.info? 96).map (fun i => (i.zero, i.size, i.bytes)) = some (some (.agg #[.int .u8 0, .int .u8 0, .slice none 0 0]), 3, 32) := by kernel_rfl
def scs : List (Sec × Value) → List Value
  | [] => []
  | x :: l => .int .u8 (x.1.1.toNat : Int) :: .int .u8 (x.1.2.1.toNat : Int) :: x.2 :: scs l
theorem scs_len : ∀ l : List (Sec × Value), (scs l).length = l.length * 3
  | [] => rfl
  | x :: l => by simp [scs, scs_len l]; omega
theorem scs_append : ∀ a b : List (Sec × Value), scs (a ++ b) = scs a ++ scs b
  | [], b => rfl
  | x :: a, b => by simp [scs, scs_append a b]
theorem scs_get : ∀ (l : List (Sec × Value)) (i : Nat) (x : Sec × Value), l[i]? = some x → (scs l)[i * 3]? = some (.int .u8 (x.1.1.toNat : Int)) ∧ (scs l)[i * 3 + 1]? = some (.int .u8 (x.1.2.1.toNat : Int)) ∧ (scs l)[i * 3 + 2]? = some x.2
  | y :: l, 0, x, h => by simp at h; subst h; exact ⟨rfl, rfl, rfl⟩
  | y :: l, i + 1, x, h => by
    have := scs_get l i x (by simpa using h)
    simp only [scs]
    rw [show (i + 1) * 3 = i * 3 + 1 + 1 + 1 by omega]
    exact this
theorem scs_one : ∀ (l : List (Sec × Value)), (∀ x ∈ l, x.2.oneCell' = true) → ∀ u ∈ scs l, u.oneCell' = true
  | [], _, u, h => by simp [scs] at h
  | x :: l, hl, u, h => by
    simp only [scs, List.mem_cons] at h
    rcases h with rfl | rfl | rfl | h
    · rfl
    · rfl
    · exact hl x (by simp)
    · exact scs_one l (fun y hy => hl y (by simp [hy])) u h
theorem Sl.one {W : World} {v : Value} {l : List UInt8} (h : Sl W v l) : v.oneCell' = true := by
  obtain ⟨p, c, rfl, _⟩ := h.ex; rfl
/-- The sections: behind w, in a row of the call's own. -/
structure Sx (w W : World) (v : Value) (prs : List (Sec × Value)) : Prop where
  row : W.ownsRow w.heap.size 96 3 v prs.length (scs prs)
  dat : ∀ x ∈ prs, (Sl w x.2 x.1.2.2 ∨ Row W w.heap.size x.2 x.1.2.2) ∧ x.1.2.2.length ≤ room
  bel : Below w.heap.size w W
theorem Sx.sl {w W : World} {v : Value} {prs : List (Sec × Value)} (h : Sx w W v prs) (x : Sec × Value) (hx : x ∈ prs) : Sl W x.2 x.1.2.2 := by
  rcases (h.dat x hx).1 with e | e
  · exact e.below h.bel
  · exact e.sl
theorem Sx.below {w W W' : World} {v : Value} {prs : List (Sec × Value)} (h : Sx w W v prs) (b : Below W.heap.size W W') : Sx w W' v prs :=
  ⟨own_kept h.row fun g _ hg => b.block g hg, fun x hx => ⟨(h.dat x hx).1.imp_right fun r => r.below b, (h.dat x hx).2⟩, h.bel.trans (b.mono h.bel.size)⟩
theorem Sx.ses {w W : World} {v : Value} {prs : List (Sec × Value)} (h : Sx w W v prs) : ∃ p c, v = .slice p prs.length c ∧ SeS W p (prs.map Prod.fst) := by
  rcases h.row.2 with ⟨rfl, e⟩ | ⟨g, cap, cur, rfl, _⟩
  · have : prs = [] := List.eq_nil_of_length_eq_zero e
    subst this
    exact ⟨none, 0, rfl, fun i t ht => by simp at ht⟩
  · refine ⟨_, cap, rfl, fun i t ht => ?_⟩
    rw [List.getElem?_map, Option.map_eq_some_iff] at ht
    obtain ⟨x, hx, rfl⟩ := ht
    obtain ⟨k1, k2, k3⟩ := scs_get prs i x hx
    have c1 := World.ownsRow.cells h.row (g := g) rfl _ _ k1
    have c2 := World.ownsRow.cells h.row (g := g) rfl _ _ k2
    have c3 := World.ownsRow.cells h.row (g := g) rfl _ _ k3
    rw [Addr.add_lit] at c1 c2 c3
    exact ⟨g, 0, x.2, rfl, c1, c2, c3, h.sl x (List.mem_of_getElem? hx), (h.dat x (List.mem_of_getElem? hx)).2⟩
/-- One section more, whose data the caller had. -/
theorem Sx.snoc {w W W1 W2 : World} {v v' : Value} {prs : List (Sec × Value)} (h : Sx w W v prs) (hb : Below W.heap.size W W1) (x : Sec × Value) (hx : Sl w x.2 x.1.2.2) (hl : x.1.2.2.length ≤ room) (hg : Grew W1 W2 v v')
    (hr : W2.ownsRow w.heap.size 96 3 v' (prs.length + 1) (scs prs ++ scs [x])) : Sx w W2 v' (prs ++ [x]) := by
  have h1 := h.below hb
  have hb2 : Below w.heap.size w W2 := hg.belowAll (fun g e => (h.row.lt g e).1) h1.bel (Nat.le_refl _)
  have nv : ∀ k cur, W1.heap[k]? = some (.cells cur 5 (0, 0)) → some k ≠ v.ownBlock := by
    intro k cur e1 e2
    obtain ⟨cur2, e3⟩ := own_block h1.row k e2.symm
    rw [e1] at e3
    simp at e3
  refine ⟨by rw [List.length_append, scs_append]; exact hr, fun y hy => ?_, hb2⟩
  rw [List.mem_append] at hy
  rcases hy with hy | hy
  · refine ⟨?_, (h.dat y hy).2⟩
    rcases (h1.dat y hy).1 with e | e
    · exact .inl e
    · refine .inr (e.kept fun g eg hgl => ?_)
      obtain ⟨cur, e1⟩ := own_block (show W1.ownsRow w.heap.size 5 1 y.2 _ _ from e) g eg
      exact hg.block g hgl (nv g cur e1)
  · simp only [List.mem_singleton] at hy
    subst hy
    exact ⟨.inl hx, hl⟩
theorem bank_at : ∀ (bs : List Bk) (p : Int), -1 ≤ p → bankG p bs = true → ∀ k (h : k < bs.length), 0 ≤ (bs[k]).1 ∧ (bs[k]).1 < 16
  | x :: bs, p, hp, h, 0, _ => by
    simp only [bankG, Bool.and_eq_true, decide_eq_true_eq] at h
    simp only [List.getElem_cons_zero]; omega
  | x :: bs, p, hp, h, k + 1, hk => by
    simp only [bankG, Bool.and_eq_true, decide_eq_true_eq] at h
    simp only [List.getElem_cons_succ]
    exact bank_at bs x.1 (by omega) h.2 k (by simpa using hk)
set_option maxHeartbeats 2000000
set_option maxRecDepth 100000
theorem cut_any (v : Value) (c : Ct) (ep : Option Addr) (ec : Nat) (bp : Option Addr) (bc : Nat) (kv : Value) (w : World) (h : IsC w v c ep ec bp bc kv) (hm : may c = true) :
    Calls Tryd.prog 49 #[v] w fun e w' => ∃ u prs, e = .returned u ∧ prs.map Prod.fst = secs c ∧ Sx w w' u prs := by
  obtain ⟨kp, kc, rfl, _⟩ := h.code.ex
  have hv := h.val
  subst hv
  unfold cv
  obtain ⟨m1, m2, m3⟩ := may_parts hm
  have hmb := may_many hm
  obtain ⟨wb, hwb⟩ : ∃ wb, wb = w.alloc (.cells #[.slice kp c.code.length kc, .int .u16 (c.entry : Int), .slice ep c.effs.length ec, .slice bp c.banks.length bc] 27) := ⟨_, rfl⟩
  have hBb : Below w.heap.size w wb := by rw [hwb]; exact (Below.refl _ _).alloc (Nat.le_refl _) _
  have hNb : wb.heap[w.heap.size]? = some (.cells [.slice kp c.code.length kc, .int .u16 (c.entry : Int), .slice ep c.effs.length ec, .slice bp c.banks.length bc].toArray 27 (0, 0)) := by rw [hwb]; exact heap_alloc_new w _
  have heb := effectBytes_any ep ec c.effs m2 h.fit.effs wb.drew (h.effs.below hBb.drew)
  have hcl := h.clen
  have s0 : wb.drew.cell? ⟨w.heap.size, 0, none⟩ = some (.slice kp c.code.length kc) ∧ wb.drew.cell? ⟨w.heap.size, 2, none⟩ = some (.slice ep c.effs.length ec) := ⟨cell_of _ _ 0 _ _ _ hNb rfl, cell_of _ _ 2 _ _ _ hNb rfl⟩
  have HN := hid hNb
  have HBb := hid hBb
  have HI := hid h
  have HM3 := hid m3
  have HM := hid hm
  clear hNb hBb h m1 m2 m3 hm
  go_enter Tryd.func49, Tryd.ntmps49
  go_wp2_with fail
  rw [← hwb]
  clear hwb
  go_region_held (fun w' => w'.cell? ⟨w.heap.size, 0, none⟩ = some (.slice kp c.code.length kc) ∧ w'.cell? ⟨w.heap.size, 2, none⟩ = some (.slice ep c.effs.length ec))
    (first | (with_reducible exact s0) | (with_reducible exact s1) | (with_reducible exact s2 _))
    (first | (go_at_call 61; refine heb.mono ?_; rintro e w1 ⟨u, rfl, hu, hb1⟩; obtain ⟨up, uc, rfl, _⟩ := hu.sl.ex; have hn1 := (hb1.block w.heap.size (lt_of HN.out)).trans HN.out; have s1 : w1.cell? ⟨w.heap.size, 0, none⟩ = some (.slice kp c.code.length kc) ∧ w1.cell? ⟨w.heap.size, 2, none⟩ = some (.slice ep c.effs.length ec) := And.intro (cell_of _ _ 0 _ _ _ hn1 rfl) (cell_of _ _ 2 _ _ _ hn1 rfl); have s2 : ∀ o : Obj, (w1.alloc o).cell? ⟨w.heap.size, 0, none⟩ = some (.slice kp c.code.length kc) ∧ (w1.alloc o).cell? ⟨w.heap.size, 2, none⟩ = some (.slice ep c.effs.length ec) := fun o => And.intro (by rw [World.cell?_alloc_some _ _ _ (by rw [s1.1]; rfl)]; exact s1.1) (by rw [World.cell?_alloc_some _ _ _ (by rw [s1.2]; rfl)]; exact s1.2); have HU := hid hu; have HB1 := hid hb1; have HN1 := hid hn1; clear hu hb1 hn1 heb))
  all_goals
    rename_i hHe
    clear s0 s1 s2 hHe
    have hx0 : Sx w (w1.alloc (.cells #[.int .u8 1, .int .u8 0, .slice kp c.code.length kc, .int .u8 2, .int .u8 0, .slice up (effB c.effs).length uc] 96)) (.slice (some ⟨w1.heap.size, 0, none⟩) 2 2) [((1, 0, c.code), .slice kp c.code.length kc), ((2, 0, effB c.effs), .slice up (effB c.effs).length uc)] := by
      have hbd : Below w.heap.size w wb.drew := HBb.out.drew
      have hbw : Below w.heap.size w w1 := hbd.trans (HB1.out.mono hbd.size)
      have hbw2 : Below w1.heap.size w1 (w1.alloc (.cells #[.int .u8 1, .int .u8 0, .slice kp c.code.length kc, .int .u8 2, .int .u8 0, .slice up (effB c.effs).length uc] 96)) := (Below.refl _ _).alloc (Nat.le_refl _) _
      refine ⟨⟨rfl, .inr ⟨w1.heap.size, 2, _, rfl, hbw.size, heap_alloc_new w1 _, Nat.le_refl _, by simp [maxLen], rfl, rfl⟩⟩, ?_, hbw.trans (hbw2.mono hbw.size)⟩
      intro x hx
      simp only [List.mem_cons, List.not_mem_nil, or_false] at hx
      rcases hx with rfl | rfl
      · exact ⟨.inl HI.out.code, HI.out.clen⟩
      · refine ⟨.inr ((HU.out.mono hbd.size).below hbw2), ?_⟩
        have := (may_parts HM.out).2.1
        simp only [effsB, Bool.and_eq_true, decide_eq_true_eq] at this
        simp only [effB_len]; unfold room; omega
    have k3 : (w1.alloc (.cells #[.int .u8 1, .int .u8 0, .slice kp c.code.length kc, .int .u8 2, .int .u8 0, .slice up (effB c.effs).length uc] 96)).cell? ⟨w.heap.size, 3, none⟩ = some (.slice bp c.banks.length bc) := by
      have := cell_of _ _ 3 _ _ _ HN1.out rfl
      rw [World.cell?_alloc_some _ _ _ (by rw [this]; rfl)]; exact this
    have HX0 := hid hx0
    clear hx0 HU HB1 HN1 HN HBb
    go_wp2_with fail
    clear k3
    go_loopw [3, 17] (fun v i wr => ∃ (k : Nat) (prs : List (Sec × Value)), k ≤ c.banks.length ∧ i = .int .i64 (k : Int) ∧ prs.map Prod.fst = (1, 0, c.code) :: (2, 0, effB c.effs) :: (c.banks.take k).map bsec ∧ Sx w wr v prs) (fun _ i _ => c.banks.length - (intOf i).toNat)
    case atStart => exact ⟨0, _, by omega, rfl, rfl, HX0.out⟩
    case round =>
      clear HX0
      obtain ⟨k, prs, hk, rfl, hP, hX⟩ := hrel
      have HP := hid hP
      clear hP
      by_cases hlt : k < c.banks.length
      case neg =>
        obtain rfl : k = c.banks.length := by omega
        have HX := hid hX
        obtain ⟨vp, vc, hvv, _⟩ := hX.ses
        subst hvv
        clear hX
        go_wp2
        go_ret
        exact ⟨_, prs, rfl, by rw [HP.out, List.take_length]; rfl, HX.out⟩
      have i1 : (k : Int) < c.banks.length := by omega
      obtain ⟨b, ob, dv, rfl, e1, e2, e3, e4⟩ := HI.out.banks.below hX.bel k c.banks[k] (List.getElem?_eq_getElem hlt)
      have e3w : Sl w dv c.banks[k].2 := by
        obtain ⟨b', ob', dv', q0, q1, q2, q3, q4⟩ := HI.out.banks k c.banks[k] (List.getElem?_eq_getElem hlt)
        have q0' : b = b' ∧ ob = ob' := by simpa using q0
        obtain ⟨rfl, rfl⟩ := q0'
        have := below_cell hX.bel _ _ q2
        rw [e2] at this
        cases this
        exact q3
      have hnum := bank_at c.banks (-1) (by omega) HM3.out k hlt
      have htk : (c.banks.take (k + 1)).map bsec = (c.banks.take k).map bsec ++ [bsec c.banks[k]] := by rw [List.take_succ_eq_append_getElem hlt, List.map_append]; rfl
      generalize c.banks[k] = t at *
      obtain ⟨n, l⟩ := t
      simp only [bsec] at *
      obtain ⟨nn, rfl⟩ : ∃ m : Nat, n = (m : Int) := ⟨n.toNat, by omega⟩
      simp only [Int.toNat_natCast] at htk
      have hb8 : ((by8 nn).toNat : Int) = (nn : Int) := by rw [by8_nat]; omega
      have x1 : (nn : Int) % 256 = nn := by omega
      obtain ⟨dp, dc, rfl, _⟩ := e3.ex
      obtain ⟨W3, hW3⟩ : ∃ W3, W3 = (wr.alloc (.cells #[.int .i64 (nn : Int), .slice dp l.length dc] 82)).alloc (.cells #[.int .u8 3, .int .u8 (nn : Int), .slice dp l.length dc] 96) := ⟨_, rfl⟩
      have hb3 : Below wr.heap.size wr W3 := by rw [hW3]; exact ((Below.refl _ _).alloc (Nat.le_refl _) _).alloc (by simp) _
      have hown := (hX.below hb3).row
      have hcs : Cs W3 (.slice (some ⟨wr.heap.size + 1, 0, none⟩) 1 1) 3 1 (scs [(((3, by8 nn, l), Value.slice dp l.length dc) : Sec × Value)]) := by
        refine .inr ⟨⟨wr.heap.size + 1, 0, none⟩, 1, rfl, rfl, ?_, scs_one _ (by intro x hx; simp at hx; subst hx; rfl)⟩
        intro j x hj
        have hn : W3.heap[wr.heap.size + 1]? = some (.cells (scs [(((3, by8 nn, l), Value.slice dp l.length dc) : Sec × Value)]).toArray 96 (0, 0)) := by
          rw [hW3]
          have := heap_alloc_new (wr.alloc (.cells #[.int .i64 (nn : Int), .slice dp l.length dc] 82)) (.cells #[.int .u8 3, .int .u8 (nn : Int), .slice dp l.length dc] 96)
          simpa [scs, hb8] using this
        have e : (⟨wr.heap.size + 1, 0, none⟩ : Addr).add j = ⟨wr.heap.size + 1, j, none⟩ := by rw [Addr.add_lit]; simp
        rw [e]
        exact cell_of _ _ _ _ _ x hn hj
      have hlp : prs.length = 2 + k := by have := congrArg List.length HP.out; simp at this; omega
      have b1 : (prs.length + 1) * 32 ≤ room := by rw [hlp]; unfold room; omega
      have b2 : prs.length + 1 ≤ maxLen := by rw [hlp]; unfold maxLen; omega
      have hwz : w.heap.size ≤ W3.heap.size := Nat.le_trans hX.bel.size hb3.size
      obtain ⟨vp, vc, hvv, _⟩ := hX.ses
      have hend : ∀ v' w4, w4.ownsRow w.heap.size 96 3 v' (prs.length + 1) (scs prs ++ scs [(((3, by8 nn, l), Value.slice dp l.length dc) : Sec × Value)]) → Grew W3 w4 (.slice vp prs.length vc) v' →
          (prs ++ [(((3, by8 nn, l), Value.slice dp l.length dc) : Sec × Value)]).map Prod.fst = (1, 0, c.code) :: (2, 0, effB c.effs) :: (c.banks.take (k + 1)).map bsec ∧ Sx w w4 v' (prs ++ [(((3, by8 nn, l), Value.slice dp l.length dc) : Sec × Value)]) := by
        intro v' w4 ho hg
        rw [← hvv] at hg
        refine ⟨?_, hX.snoc hb3 _ e3w e4 hg ho⟩
        rw [List.map_append, HP.out, htk]; rfl
      rw [hvv] at hown
      subst hvv
      have HE := hid hend
      clear hend hX hb3 htk hlp HP e3w hb8 e3
      rw [hW3] at hown hcs hwz HE
      clear hW3
      go_wp2_with (first | (at_builtin; refine wpList_append_row _ rfl (.tmp 21) (.tmp 28) 75 96 (.agg #[.int .u8 0, .int .u8 0, .slice none 0 0]) 3 32 Tryd.underlying75 info96 rfl (by decide) rfl w.heap.size _ prs.length (scs prs) rfl hown _ 1 _ rfl hcs b1 b2 hwz ?_))
      intro v' w4 ho hg
      obtain ⟨hP2, hX2⟩ := HE.out v' w4 ho hg
      obtain ⟨vp2, vc2, hvv2, _⟩ := hX2.ses
      have HP2 := hid hP2
      have HX2 := hid hX2
      subst hvv2
      clear hP2 hX2 ho hg HE hown hcs
      go_wp2
      go_roundw
      case rel =>
        first
          | exact ⟨k + 1, _, by omega, by go_num, HP2.out, HX2.out⟩
          | ((repeat apply Exists.intro); refine ⟨⟨k + 1, _, by omega, ?_, HP2.out, HX2.out⟩, rfl⟩; go_num)
      case measure => simp [intOf]; omega
end Go.Proofs.YtmlpijjjkpnioaaDoor.C
