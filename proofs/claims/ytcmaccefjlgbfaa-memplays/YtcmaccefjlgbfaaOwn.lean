import Derived.Test.YtcmaccefjlgbfaaTones
/-! own, ownBanks: banks in new memory, a mark behind each. -/
namespace Go.Proofs.Ytcmaccefjlgbfaa
open Go.RowKit
open Go.Proofs
set_option linter.unusedVariables false
set_option linter.unusedSimpArgs false
theorem info37 : (Try.prog.info? 37).map (fun i => (i.zero, i.size, i.bytes)) = some (some (.agg #[.int .i64 0, .slice none 0 0]), 2, 32) := by kernel_rfl
def bc (t : Int × List UInt8) (g : Nat × Nat) : List Value := [.int .i64 t.1, .slice (some ⟨g.1, 0, none⟩) t.2.length g.2]
def bcs : List (Int × List UInt8) → List (Nat × Nat) → List Value
  | t :: bs, g :: gs => bc t g ++ bcs bs gs
  | _, _ => []
theorem bcs_len : ∀ (bs : List (Int × List UInt8)) (gs : List (Nat × Nat)), gs.length = bs.length → (bcs bs gs).length = bs.length * 2
  | [], [], _ => rfl
  | t :: bs, g :: gs, h => by simp [bcs, bc, bcs_len bs gs (by simpa using h)]; omega
theorem bcs_snoc : ∀ (bs : List (Int × List UInt8)) (gs : List (Nat × Nat)) (t : Int × List UInt8) (g : Nat × Nat), gs.length = bs.length → bcs (bs ++ [t]) (gs ++ [g]) = bcs bs gs ++ bc t g
  | [], [], t, g, _ => by simp [bcs]
  | u :: bs, x :: gs, t, g, h => by simp [bcs, bcs_snoc bs gs t g (by simpa using h)]
theorem bcs_get : ∀ (bs : List (Int × List UInt8)) (gs : List (Nat × Nat)) (i : Nat) (t : Int × List UInt8) (g : Nat × Nat), bs[i]? = some t → gs[i]? = some g → (bcs bs gs)[i * 2]? = some (.int .i64 t.1) ∧ (bcs bs gs)[i * 2 + 1]? = some (.slice (some ⟨g.1, 0, none⟩) t.2.length g.2)
  | u :: bs, x :: gs, 0, t, g, h1, h2 => by simp at h1 h2; subst h1 h2; exact ⟨rfl, rfl⟩
  | u :: bs, x :: gs, i + 1, t, g, h1, h2 => by
    have := bcs_get bs gs i t g (by simpa using h1) (by simpa using h2)
    simp only [bcs, bc]
    rw [show (i + 1) * 2 = i * 2 + 1 + 1 by omega]
    exact this
theorem bcs_one : ∀ (bs : List (Int × List UInt8)) (gs : List (Nat × Nat)), ∀ u ∈ bcs bs gs, u.oneCell' = true
  | t :: bs, g :: gs, u, h => by
    simp only [bcs, bc, List.cons_append, List.nil_append, List.mem_cons] at h
    rcases h with rfl | rfl | h
    · rfl
    · rfl
    · exact bcs_one bs gs u h
  | [], _, u, h => by simp [bcs] at h
  | t :: bs, [], u, h => by simp [bcs] at h
/-- Banks in new memory, with a mark behind each. -/
structure OB (W : World) (B : Nat) (v : Value) (bs : List (Int × List UInt8)) (gs : List (Nat × Nat)) : Prop where
  len : gs.length = bs.length
  row : W.ownsRow B 37 2 v bs.length (bcs bs gs)
  dat : ∀ (i : Nat) (t : Int × List UInt8) (g : Nat × Nat), bs[i]? = some t → gs[i]? = some g → Row W B (.slice (some ⟨g.1, 0, none⟩) (t.2.length + 1) g.2) (t.2 ++ [90])
  nd : (gs.map Prod.fst).Nodup
theorem row_pre {W : World} {B : Nat} {g c n : Nat} {l m : List UInt8} (h : Row W B (.slice (some ⟨g, 0, none⟩) n c) (l ++ m)) : Sl W (.slice (some ⟨g, 0, none⟩) l.length c) l := by
  have h' := h
  rcases h.2 with ⟨e, _⟩ | ⟨g', cap, cur, e, _, hg, hcap, _⟩
  · cases e
  · simp only [Value.slice.injEq, Option.some.injEq, Addr.mk.injEq, and_true, true_and] at e
    obtain ⟨rfl, _, rfl⟩ := e
    refine .inr ⟨_, c, rfl, by simp at hcap; omega, fun j b hj => ?_⟩
    have hj2 : (l ++ m)[j]? = some b := by rw [List.getElem?_append_left (List.getElem?_eq_some_iff.1 hj).1]; exact hj
    exact World.ownsRow.cells h' (g := g) rfl j _ ((bv_get _ j _).2 ⟨b, hj2, rfl⟩)
theorem OB.ex {W : World} {B : Nat} {v : Value} {bs : List (Int × List UInt8)} {gs : List (Nat × Nat)} (h : OB W B v bs gs) (hl : ∀ t ∈ bs, t.2.length ≤ room) : ∃ p c, v = .slice p bs.length c ∧ BnS W p bs := by
  rcases h.row.2 with ⟨rfl, e⟩ | ⟨g, cap, cur, rfl, _⟩
  · have : bs = [] := List.eq_nil_of_length_eq_zero e
    subst this
    exact ⟨none, 0, rfl, fun i t ht => by simp at ht⟩
  · refine ⟨_, cap, rfl, fun i t ht => ?_⟩
    have hi := (List.getElem?_eq_some_iff.1 ht).1
    have hig : i < gs.length := by rw [h.len]; exact hi
    have hg : gs[i]? = some gs[i] := List.getElem?_eq_getElem hig
    obtain ⟨k1, k2⟩ := bcs_get bs gs i t _ ht hg
    have c1 := World.ownsRow.cells h.row (g := g) rfl _ _ k1
    have c2 := World.ownsRow.cells h.row (g := g) rfl _ _ k2
    rw [Addr.add_lit] at c1 c2
    refine ⟨g, 0, _, rfl, c1, c2, row_pre (h.dat i t _ ht hg), hl t (List.mem_of_getElem? ht)⟩
theorem OB.kept {W W' : World} {B : Nat} {v : Value} {bs : List (Int × List UInt8)} {gs : List (Nat × Nat)} (h : OB W B v bs gs) (k : ∀ i, B ≤ i → i < W.heap.size → W'.heap[i]? = W.heap[i]?) : OB W' B v bs gs :=
  ⟨h.len, own_kept h.row fun g e hg => k g (h.row.lt g e).1 hg, fun i t g h1 h2 => own_kept (h.dat i t g h1 h2) fun x e hg => k x ((h.dat i t g h1 h2).lt x e).1 hg, h.nd⟩
theorem OB.below {W W' : World} {B : Nat} {v : Value} {bs : List (Int × List UInt8)} {gs : List (Nat × Nat)} (h : OB W B v bs gs) (k : Below W.heap.size W W') : OB W' B v bs gs := h.kept fun i _ hi => k.block i hi
/-- One bank more. -/
theorem OB.snoc {W W1 W2 : World} {B : Nat} {v v' : Value} {bs : List (Int × List UInt8)} {gs : List (Nat × Nat)} (h : OB W B v bs gs) (hB : B ≤ W.heap.size) (t : Int × List UInt8) (g c : Nat) (hb : Below W.heap.size W W1)
    (hd : Row W1 W.heap.size (.slice (some ⟨g, 0, none⟩) (t.2.length + 1) c) (t.2 ++ [90])) (hg : Grew W1 W2 v v') (hr : W2.ownsRow B 37 2 v' (bs.length + 1) (bcs bs gs ++ bc t (g, c))) :
    OB W2 B v' (bs ++ [t]) (gs ++ [(g, c)]) := by
  have hlt : ∀ (i : Nat) (x : Int × List UInt8) (y : Nat × Nat), bs[i]? = some x → gs[i]? = some y → y.1 < W.heap.size := fun i x y h1 h2 => ((h.dat i x y h1 h2).lt y.1 rfl).2
  have hmem : ∀ y ∈ gs, y.1 < W.heap.size := by
    intro y hy
    obtain ⟨i, hi, e⟩ := List.mem_iff_getElem.1 hy
    have hb' : i < bs.length := by rw [← h.len]; exact hi
    exact hlt i bs[i] y (List.getElem?_eq_getElem hb') (by rw [List.getElem?_eq_getElem hi, e])
  have hgw : W.heap.size ≤ g := (hd.lt g rfl).1
  have nv : ∀ k cur, W1.heap[k]? = some (.cells cur 5 (0, 0)) → some k ≠ v.ownBlock := by
    intro k cur e1 e2
    obtain ⟨cur2, e3⟩ := own_block h.row k e2.symm
    have := (hb.block k (lt_of e3)).trans e3
    rw [e1] at this
    simp at this
  have kp : ∀ {x : Value} {n xs}, W1.ownsRow B 5 1 x n xs → W2.ownsRow B 5 1 x n xs := fun hx => own_kept hx fun k e hk => by
    obtain ⟨cur, e1⟩ := own_block hx k e
    exact hg.block k hk (nv k cur e1)
  refine ⟨by simp [h.len], ?_, ?_, ?_⟩
  · rw [bcs_snoc bs gs t (g, c) h.len, List.length_append]; exact hr
  · intro i x y h1 h2
    by_cases hi : i < bs.length
    · rw [List.getElem?_append_left hi] at h1
      rw [List.getElem?_append_left (by rw [h.len]; exact hi)] at h2
      exact kp (Row.below (h.dat i x y h1 h2) hb)
    · rw [List.getElem?_append_right (by omega)] at h1
      rw [List.getElem?_append_right (by rw [h.len]; omega)] at h2
      have e0 : i - bs.length = 0 := by
        have := (List.getElem?_eq_some_iff.1 h1).1; simp at this; omega
      rw [e0] at h1; rw [h.len, e0] at h2
      simp at h1 h2; subst h1 h2
      exact kp (Row.mono hd hB)
  · rw [List.map_append, List.nodup_append]
    refine ⟨h.nd, by simp, ?_⟩
    intro a ha b hb' e
    simp at hb'
    simp only [List.mem_map] at ha
    obtain ⟨y, hy, rfl⟩ := ha
    have := hmem y hy
    omega
set_option maxHeartbeats 2000000
set_option maxRecDepth 100000
theorem own_any (v : Value) (l : List UInt8) (hl : l.length ≤ room) (w : World) (h : Sl w v l) :
    Calls Try.prog 38 #[v] w fun e w' => ∃ u, e = .returned u ∧ Row w' w.heap.size u l ∧ Below w.heap.size w w' := by
  have hr0 : Row (w.alloc (.cells #[] 5)) w.heap.size (.slice (some ⟨w.heap.size, 0, none⟩) 0 0) [] := row_of_alloc w w.heap.size (Nat.le_refl _) [] (by simp)
  have hb0 : Below w.heap.size w (w.alloc (.cells #[] 5)) := (Below.refl _ _).alloc (Nat.le_refl _) _
  have hs0 := h.below hb0
  obtain ⟨p, c, rfl, _⟩ := h.ex
  go_enter Try.func38, Try.ntmps38
  go_wp2_with (first | (at_builtin; refine wpList_append_bytes _ rfl _ _ rfl w.heap.size _ [] rfl hr0 _ l rfl hs0 (by simpa using hl) hb0.size ?_))
  intro v' w' hr hg
  go_wp2
  go_ret
  exact ⟨_, rfl, hr, hg.belowAll (fun g e => (hr0.lt g e).1) hb0 (Nat.le_refl _)⟩
theorem may_any (p : Option Addr) (c : Nat) (bs : List (Int × List UInt8)) (hl : bs.length ≤ room) (w : World) (h : BnS w p bs) :
    Calls Try.prog 10 #[.slice p bs.length c] w fun e w' => e = .returned (.bool (mayB (-1) bs)) ∧ Below w.heap.size w w' := by
  have hm := mayBanks_any p c bs hl w h
  go_enter Try.func10, Try.ntmps10
  go_wp2_with fail
  refine hm.mono ?_
  rintro e w1 ⟨rfl, h⟩
  go_wp2
  go_ret
  exact ⟨rfl, h⟩
theorem slice_to (W : World) (p : Option Addr) (n cap h : Nat) (z : Int) (hz : z = (h : Int)) (hc : h ≤ cap) : (Instr.sliceAt 35 (.slice p n cap) none (some (.int .i64 z)) none).run Try.prog W = .ok (.slice p h cap) W := by
  subst hz
  have elem35 : Try.prog.underlying 35 = some (.slice (Try.prog.elem 35)) := by kernel_rfl
  have size5 : (sizeOf (Try.prog.elem 35)).run Try.prog W = .ok 1 W := by
    have e : Try.prog.elem 35 = 5 := by kernel_rfl
    rw [e]
    exact Try.sizeOf5 W
  have e0 : Option.map (fun x : Addr => x.add 0) p = p := by cases p <;> simp [Addr.add]
  rw [run_sliceAt_slice W 35 _ _ _ _ elem35, run_slice_h W 35 p n cap elem35 .i64 (h : Int) (by omega) (by omega), size5]
  simp [Result.andThen, sliced, e0]
theorem ownBanks_any (p : Option Addr) (c : Nat) (bs : List (Int × List UInt8)) (hl : bs.length * 32 ≤ room) (hd : ∀ t ∈ bs, t.2.length + 1 ≤ room) (w : World) (h : BnS w p bs) :
    Calls Try.prog 8 #[.slice p bs.length c] w fun e w' => ∃ u gs, e = .returned u ∧ OB w' w.heap.size u bs gs ∧ Below w.heap.size w w' := by
  unfold room at hl
  go_enter Try.func8, Try.ntmps8
  go_wp2
  go_loopw [3, 9] (fun v i wr => ∃ (k : Nat) (gs : List (Nat × Nat)), k ≤ bs.length ∧ i = .int .i64 (k : Int) ∧ OB wr w.heap.size v (bs.take k) gs ∧ Below w.heap.size w wr) (fun _ i _ => bs.length - (intOf i).toNat)
  case atStart => exact ⟨0, [], by omega, rfl, ⟨rfl, World.ownsRow_nil _ _ _ _, fun i t g h1 _ => by simp at h1, by simp⟩, Below.refl _ _⟩
  case round =>
    obtain ⟨k, gs, hk, rfl, hO, hB⟩ := hrel
    by_cases hlt : k < bs.length
    · have i1 : (k : Int) < bs.length := by omega
      obtain ⟨b, o, dv, rfl, e1, e2, e3, e4⟩ := h.below hB k bs[k] (List.getElem?_eq_getElem hlt)
      have hd1 := hd bs[k] (List.getElem_mem hlt)
      have htk : bs.take (k + 1) = bs.take k ++ [bs[k]] := List.take_succ_eq_append_getElem hlt
      generalize bs[k] = t at *
      have hbL : Below wr.heap.size wr (wr.alloc (.cells #[.int .i64 t.1, dv] 37)) := (Below.refl _ _).alloc (Nat.le_refl _) _
      have hv2 : (wr.alloc (.cells #[.int .i64 t.1, dv] 37)).heap[wr.heap.size]? = some (.cells [.int .i64 t.1, dv].toArray 37 (0, 0)) := heap_alloc_new wr _
      have how := own_any dv t.2 (by omega) (wr.alloc (.cells #[.int .i64 t.1, dv] 37)) (e3.below hbL)
      obtain ⟨dp, dc, rfl, _⟩ := e3.ex
      clear e3
      go_wp2_with fail
      refine how.mono ?_
      rintro e w2 ⟨u, rfl, hu, hb2⟩
      have hz1 : (wr.alloc (.cells #[.int .i64 t.1, .slice dp t.2.length dc] 37)).heap.size = wr.heap.size + 1 := by simp
      rw [hz1] at hu hb2
      have hb2' : Below wr.heap.size wr w2 := hbL.trans (hb2.mono (by omega))
      have hu2 : Row (w2.alloc (.cells (bv [90]).toArray 5)) wr.heap.size u t.2 := Row.below (Row.mono hu (by omega)) ((Below.refl _ _).alloc (Nat.le_refl _) _)
      have hb3 : Below wr.heap.size wr (w2.alloc (.cells (bv [90]).toArray 5)) := hb2'.alloc hb2'.size _
      have hm := (row_of_alloc w2 wr.heap.size hb2'.size [90] (by decide)).sl
      clear how
      go_wp2_with (first | (at_builtin; refine wpList_append_bytes _ rfl _ _ rfl wr.heap.size _ t.2 rfl hu2 _ [90] rfl hm (by simpa using hd1) hb3.size ?_))
      intro v3 w3 hr3 hg3
      have hb4 : Below wr.heap.size wr w3 := hg3.belowAll (fun g e => (hu2.lt g e).1) hb3 (Nat.le_refl _)
      obtain ⟨g, cap, rfl⟩ := own_pos hr3 (by simp)
      have hle : (t.2 ++ [90]).length = t.2.length + 1 := by simp
      have hne : some wr.heap.size ≠ u.ownBlock := by
        intro e; have := (hu.lt _ e.symm).1; omega
      have hv3 : w3.heap[wr.heap.size]? = some (.cells [.int .i64 t.1, .slice dp t.2.length dc].toArray 37 (0, 0)) := by
        refine (hg3.block wr.heap.size (by have := hb2.size; simp; omega) hne).trans ?_
        refine (Below.heap_alloc _ _ _ (by have := hb2.size; omega)).trans ?_
        exact (hb2.block _ (by omega)).trans hv2
      rw [hle] at hr3 ⊢
      have hcap : t.2.length ≤ cap := by
        rcases hr3.2 with ⟨e, _⟩ | ⟨_, _, _, e, _, _, h2, _⟩
        · cases e
        · simp only [Value.slice.injEq] at e; rw [e.2.2]; simp at h2; omega
      have k0 := cell_of w3 wr.heap.size 0 _ 37 _ hv3 rfl
      have k1 := cell_of w3 wr.heap.size 1 _ 37 _ hv3 rfl
      have hsl := slice_to w3.drew (some ⟨g, 0, none⟩) (t.2.length + 1) cap t.2.length (t.2.length : Int) rfl hcap
      clear hg3 hu hu2 hm hb3 hb2 hb2' hv2 hv3 hle hbL hne
      have hB4 : Below w.heap.size w w3 := hB.trans (hb4.mono hB.size)
      obtain ⟨W1, hW1⟩ : ∃ W1, W1 = w3.drew.alloc (.cells #[.int .i64 t.1, .slice (some ⟨g, 0, none⟩) t.2.length cap] 37) := ⟨_, rfl⟩
      have hbl : Below wr.heap.size wr W1 := by rw [hW1]; exact (hb4.drew).alloc hb4.size _
      have hown : (w3.drew.alloc (.cells #[.int .i64 t.1, .slice (some ⟨g, 0, none⟩) t.2.length cap] 37)).ownsRow w.heap.size 37 2 u3 (bs.take k).length (bcs (bs.take k) gs) := by
        rw [← hW1]; exact own_kept hO.row fun x e hx => hbl.block x hx
      have hcs : Cs (w3.drew.alloc (.cells #[.int .i64 t.1, .slice (some ⟨g, 0, none⟩) t.2.length cap] 37)) (.slice (some ⟨w3.heap.size, 0, none⟩) 1 1) 2 1 (bc t (g, cap)) := by
        refine .inr ⟨⟨w3.heap.size, 0, none⟩, 1, rfl, rfl, ?_, by intro x hx; simp [bc] at hx; rcases hx with rfl | rfl <;> rfl⟩
        intro j x hj
        have hn : (w3.drew.alloc (.cells #[.int .i64 t.1, .slice (some ⟨g, 0, none⟩) t.2.length cap] 37)).heap[w3.heap.size]? = some (.cells (bc t (g, cap)).toArray 37 (0, 0)) := heap_alloc_new w3.drew _
        have e : (⟨w3.heap.size, 0, none⟩ : Addr).add j = ⟨w3.heap.size, j, none⟩ := by rw [Addr.add_lit]; simp
        rw [e]
        exact cell_of _ _ _ _ 37 x hn hj
      have hlk : (bs.take k).length = k := by rw [List.length_take]; omega
      have b1 : ((bs.take k).length + 1) * 32 ≤ room := by rw [hlk]; unfold room; omega
      have b2 : (bs.take k).length + 1 ≤ maxLen := by rw [hlk]; unfold maxLen; omega
      have hwz : w.heap.size ≤ (w3.drew.alloc (.cells #[.int .i64 t.1, .slice (some ⟨g, 0, none⟩) t.2.length cap] 37)).heap.size := by have := hB4.size; simp; omega
      have hend : ∀ v' w4, w4.ownsRow w.heap.size 37 2 v' ((bs.take k).length + 1) (bcs (bs.take k) gs ++ bc t (g, cap)) → Grew (w3.drew.alloc (.cells #[.int .i64 t.1, .slice (some ⟨g, 0, none⟩) t.2.length cap] 37)) w4 u3 v' →
          OB w4 w.heap.size v' (bs.take (k + 1)) (gs ++ [(g, cap)]) ∧ Below w.heap.size w w4 := by
        intro v' w4 ho hg
        rw [← hW1] at hg
        rw [htk]
        have hr4 : Row W1 wr.heap.size (.slice (some ⟨g, 0, none⟩) (t.2.length + 1) cap) (t.2 ++ [90]) := by
          rw [hW1]; exact Row.below (W := w3.drew) hr3 ((Below.refl _ _).alloc (Nat.le_refl _) _)
        refine ⟨hO.snoc hB.size t g cap hbl hr4 hg ho, ?_⟩
        refine hg.belowAll (fun x e => (hO.row.lt x e).1) (N := w.heap.size) (W0 := w) ?_ (Nat.le_refl _)
        rw [hW1]; exact (hB4.drew).alloc hB4.size _
      have HE : Hid _ := hend
      clear hW1 hbl hend hO hB hb4 hB4 htk hr3
      go_wp2_with fail
      go_region_law
        (refine step_append_row rfl (.tmp 18) (.tmp 27) 22 37 (.agg #[.int .i64 0, .slice none 0 0]) 2 32 Try.underlying22 info37 rfl (by decide) rfl w.heap.size u3 (bs.take k).length (bcs (bs.take k) gs) (by simp [Act.eval]) hown (.slice (some ⟨w3.heap.size, 0, none⟩) 1 1) 1 (bc t (g, cap)) (by simp [Act.eval]) hcs b1 b2 hwz ?_; intro v' w4 ho hg; obtain ⟨hO2, hB2⟩ := HE.out v' w4 ho hg; clear HE)
      all_goals
        have HO2 : Hid _ := hO2
        have HB2 : Hid _ := hB2
        clear hO2 hB2 ho hg hown hcs
        go_wp2
        go_roundw
        case rel =>
          first
            | exact ⟨k + 1, _, by omega, by go_num, HO2.out, HB2.out⟩
            | ((repeat apply Exists.intro); refine ⟨⟨k + 1, _, by omega, ?_, HO2.out, HB2.out⟩, rfl⟩; go_num)
        case measure => simp [intOf]; omega
    · obtain rfl : k = bs.length := by omega
      rw [List.take_length] at hO
      go_wp2
      go_ret
      exact ⟨_, _, rfl, hO, hB⟩
end Go.Proofs.Ytcmaccefjlgbfaa
