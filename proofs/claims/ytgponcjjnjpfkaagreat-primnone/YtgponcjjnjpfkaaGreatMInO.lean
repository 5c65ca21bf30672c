import Derived.Test.YtgponcjjnjpfkaaGreatMOwn
import Derived.Test.YtgponcjjnjpfkaaGreatMTones
import Derived.Deep.RegionHeld
/-! banksInOrder, Image. -/
namespace Go.Proofs.YtgponcjjnjpfkaaGreat.M
open Go.RowKit
open Go.Proofs
set_option linter.unusedVariables false
set_option linter.unusedSimpArgs false
/-- Banks in new memory. -/
structure OI (W : World) (B : Nat) (v : Value) (bs : List (Int × List UInt8)) (gs : List (Nat × Nat)) : Prop where
  len : gs.length = bs.length
  row : W.ownsRow B 82 2 v bs.length (bcs bs gs)
  dat : ∀ (i : Nat) (t : Int × List UInt8) (g : Nat × Nat), bs[i]? = some t → gs[i]? = some g → Row W B (.slice (some ⟨g.1, 0, none⟩) t.2.length g.2) t.2
  nd : (gs.map Prod.fst).Nodup
theorem OI.ex {W : World} {B : Nat} {v : Value} {bs : List (Int × List UInt8)} {gs : List (Nat × Nat)} (h : OI W B v bs gs) (hl : ∀ t ∈ bs, t.2.length ≤ room) : ∃ p c, v = .slice p bs.length c ∧ BnS W p bs := by
  rcases h.row.2 with ⟨rfl, e⟩ | ⟨g, cap, cur, rfl, _⟩
  · have : bs = [] := List.eq_nil_of_length_eq_zero e
    subst this
    exact ⟨none, 0, rfl, fun i t ht => by simp at ht⟩
  · refine ⟨_, cap, rfl, fun i t ht => ?_⟩
    have hi := (List.getElem?_eq_some_iff.1 ht).1
    have hig : i < gs.length := by rw [h.len]; exact hi
    have hg : gs[i]? = some gs[i] := List.getElem?_eq_getElem hig
    obtain ⟨k1, k2⟩ := bcs_get bs gs i t _ ht hg
    have c1 := World.ownsRow.cells h.row (g := g) rfl _ _ k1
    have c2 := World.ownsRow.cells h.row (g := g) rfl _ _ k2
    rw [Addr.add_lit] at c1 c2
    refine ⟨g, 0, _, rfl, c1, c2, Row.sl (h.dat i t _ ht hg), hl t (List.mem_of_getElem? ht)⟩
theorem OI.kept {W W' : World} {B : Nat} {v : Value} {bs : List (Int × List UInt8)} {gs : List (Nat × Nat)} (h : OI W B v bs gs) (k : ∀ i, B ≤ i → i < W.heap.size → W'.heap[i]? = W.heap[i]?) : OI W' B v bs gs :=
  ⟨h.len, own_kept h.row fun g e hg => k g (h.row.lt g e).1 hg, fun i t g h1 h2 => own_kept (h.dat i t g h1 h2) fun x e hg => k x ((h.dat i t g h1 h2).lt x e).1 hg, h.nd⟩
theorem OI.below {W W' : World} {B : Nat} {v : Value} {bs : List (Int × List UInt8)} {gs : List (Nat × Nat)} (h : OI W B v bs gs) (k : Below W.heap.size W W') : OI W' B v bs gs := h.kept fun i _ hi => k.block i hi
/-- One bank more. -/
theorem OI.snoc {W W1 W2 : World} {B : Nat} {v v' : Value} {bs : List (Int × List UInt8)} {gs : List (Nat × Nat)} (h : OI W B v bs gs) (hB : B ≤ W.heap.size) (t : Int × List UInt8) (g c : Nat) (hb : Below W.heap.size W W1)
    (hd : Row W1 W.heap.size (.slice (some ⟨g, 0, none⟩) t.2.length c) t.2) (hg : Grew W1 W2 v v') (hr : W2.ownsRow B 82 2 v' (bs.length + 1) (bcs bs gs ++ bc t (g, c))) :
    OI W2 B v' (bs ++ [t]) (gs ++ [(g, c)]) := by
  have hlt : ∀ (i : Nat) (x : Int × List UInt8) (y : Nat × Nat), bs[i]? = some x → gs[i]? = some y → y.1 < W.heap.size := fun i x y h1 h2 => ((h.dat i x y h1 h2).lt y.1 rfl).2
  have hmem : ∀ y ∈ gs, y.1 < W.heap.size := by
    intro y hy
    obtain ⟨i, hi, e⟩ := List.mem_iff_getElem.1 hy
    have hb' : i < bs.length := by rw [← h.len]; exact hi
    exact hlt i bs[i] y (List.getElem?_eq_getElem hb') (by rw [List.getElem?_eq_getElem hi, e])
  have hgw : W.heap.size ≤ g := (hd.lt g rfl).1
  have nv : ∀ k cur, W1.heap[k]? = some (.cells cur 5 (0, 0)) → some k ≠ v.ownBlock := by
    intro k cur e1 e2
    obtain ⟨cur2, e3⟩ := own_block h.row k e2.symm
    have := (hb.block k (lt_of e3)).trans e3
    rw [e1] at this
    simp at this
  have kp : ∀ {x : Value} {n xs}, W1.ownsRow B 5 1 x n xs → W2.ownsRow B 5 1 x n xs := fun hx => own_kept hx fun k e hk => by
    obtain ⟨cur, e1⟩ := own_block hx k e
    exact hg.block k hk (nv k cur e1)
  refine ⟨by simp [h.len], ?_, ?_, ?_⟩
  · rw [bcs_snoc bs gs t (g, c) h.len, List.length_append]; exact hr
  · intro i x y h1 h2
    by_cases hi : i < bs.length
    · rw [List.getElem?_append_left hi] at h1
      rw [List.getElem?_append_left (by rw [h.len]; exact hi)] at h2
      exact kp (Row.below (h.dat i x y h1 h2) hb)
    · rw [List.getElem?_append_right (by omega)] at h1
      rw [List.getElem?_append_right (by rw [h.len]; omega)] at h2
      have e0 : i - bs.length = 0 := by
        have := (List.getElem?_eq_some_iff.1 h1).1; simp at this; omega
      rw [e0] at h1; rw [h.len, e0] at h2
      simp at h1 h2; subst h1 h2
      exact kp (Row.mono hd hB)
  · rw [List.map_append, List.nodup_append]
    refine ⟨h.nd, by simp, ?_⟩
    intro a ha b hb' e
    simp at hb'
    simp only [List.mem_map] at ha
    obtain ⟨y, hy, rfl⟩ := ha
    have := hmem y hy
    omega

/-- The banks below k that there are, by their numbers. -/
def inO (m : MS) (k : Nat) : List (Int × List UInt8) := (List.range k).filterMap fun n => (m.banks n).map fun l => ((n : Int), l)
theorem inO_none (m : MS) (k : Nat) (h : m.banks k = none) : inO m (k + 1) = inO m k := by simp [inO, List.range_succ, List.filterMap_append, h]
theorem inO_some (m : MS) (k : Nat) (l : List UInt8) (h : m.banks k = some l) : inO m (k + 1) = inO m k ++ [((k : Int), l)] := by simp [inO, List.range_succ, List.filterMap_append, h]
theorem inO_len (m : MS) (k : Nat) : (inO m k).length ≤ k := by
  have := List.length_filterMap_le (fun n => (m.banks n).map fun l => ((n : Int), l)) (List.range k)
  simpa [inO] using this
set_option maxHeartbeats 2000000
set_option maxRecDepth 100000
theorem inOrder_any (b : Nat) (w : World) {F : Nat → Prop} {m : MS} (hm : HasM w F b m) :
    Calls Tryz.prog 80 #[.pointer (some ⟨b, 0, none⟩)] w fun e w' => ∃ u gs, e = .returned u ∧ OI w' w.heap.size u (inO m 16) gs ∧ Below w.heap.size w w' := by
  go_enter Tryz.func80, Tryz.ntmps80
  go_wp2
  go_loopw [3, 6] (fun v i wr => ∃ (k : Nat) (gs : List (Nat × Nat)), k ≤ 16 ∧ i = .int .i64 (k : Int) ∧ OI wr w.heap.size v (inO m k) gs ∧ Below w.heap.size w wr) (fun _ i _ => 16 - (intOf i).toNat)
  case atStart => exact ⟨0, [], by omega, rfl, ⟨rfl, World.ownsRow_nil _ _ _ _, fun i t g h1 _ => by simp [inO] at h1, by simp⟩, Below.refl _ _⟩
  case round =>
    obtain ⟨k, gs, hk, rfl, hO, hB⟩ := hrel
    by_cases hlt : k < 16
    · have i1 : (k : Int) < 16 := by omega
      obtain ⟨mb, L, tv, hm2⟩ := hm.below hB
      have cb := cell_of wr b 0 _ 119 _ hm2.blk (mcells_0 mb m tv)
      cases hbk : m.banks k with
      | none =>
        have hlk := look_none wr mb k L hm2.map (by rintro p hp rfl; obtain ⟨l, e2, _⟩ := hm2.bks p hp; rw [hbk] at e2; cases e2)
        have hO2 : OI wr w.heap.size u3 (inO m (k + 1)) gs := by rw [inO_none m k hbk]; exact hO
        have HO2 : Hid _ := hO2
        have HB : Hid _ := hB
        clear hO hO2 hm2 hB hbk
        go_wp2
        go_roundw
        case rel =>
          first
            | exact ⟨k + 1, _, by omega, by go_num, HO2.out, HB.out⟩
            | ((repeat apply Exists.intro); refine ⟨⟨k + 1, _, by omega, ?_, HO2.out, HB.out⟩, rfl⟩; go_num)
        case measure => simp [intOf]; omega
      | some l =>
        obtain ⟨g, hg⟩ := hm2.all _ _ hbk
        obtain ⟨l', e2, hkk⟩ := hm2.bks _ hg
        rw [hbk] at e2; cases e2
        have hlk := look_some wr mb k g L hm2.map hm2.keys hg
        have hl := (hm2.wf.bk _ _ hbk).2
        have hsl : Sl wr (.slice (some ⟨g, 0, none⟩) 16384 16384) l := by
          refine .inr ⟨⟨g, 0, none⟩, 16384, by rw [hl], by rw [hl]; omega, fun j x hj => ?_⟩
          rw [Addr.add_lit, Nat.zero_add]
          exact cell_of wr g _ _ 116 _ hkk ((bv_get l _ _).2 ⟨x, hj, rfl⟩)
        have hcl := clone_any _ l (by rw [hl]; unfold room; omega) wr hsl
        have hin := inO_some m k l hbk
        have hlen := inO_len m k
        clear hm2 hsl hkk hg hbk
        go_wp2_with fail
        refine hcl.mono ?_
        rintro e w2 ⟨u, rfl, hu, hb2⟩
        obtain ⟨g2, cap, rfl⟩ := own_pos hu (by omega)
        have hB4 : Below w.heap.size w w2 := hB.trans (hb2.mono hB.size)
        obtain ⟨W1, hW1⟩ : ∃ W1, W1 = w2.alloc (.cells #[.int .i64 (k : Int), .slice (some ⟨g2, 0, none⟩) l.length cap] 82) := ⟨_, rfl⟩
        have hbl : Below wr.heap.size wr W1 := by rw [hW1]; exact hb2.alloc hb2.size _
        have hown : (w2.alloc (.cells #[.int .i64 (k : Int), .slice (some ⟨g2, 0, none⟩) l.length cap] 82)).ownsRow w.heap.size 82 2 u3 (inO m k).length (bcs (inO m k) gs) := by
          rw [← hW1]; exact own_kept hO.row fun x e hx => hbl.block x hx
        have hcs : Cs (w2.alloc (.cells #[.int .i64 (k : Int), .slice (some ⟨g2, 0, none⟩) l.length cap] 82)) (.slice (some ⟨w2.heap.size, 0, none⟩) 1 1) 2 1 (bc ((k : Int), l) (g2, cap)) := by
          refine .inr ⟨⟨w2.heap.size, 0, none⟩, 1, rfl, rfl, ?_, by intro x hx; simp [bc] at hx; rcases hx with rfl | rfl <;> rfl⟩
          intro j x hj
          have hn : (w2.alloc (.cells #[.int .i64 (k : Int), .slice (some ⟨g2, 0, none⟩) l.length cap] 82)).heap[w2.heap.size]? = some (.cells (bc ((k : Int), l) (g2, cap)).toArray 82 (0, 0)) := heap_alloc_new w2 _
          have e : (⟨w2.heap.size, 0, none⟩ : Addr).add j = ⟨w2.heap.size, j, none⟩ := by rw [Addr.add_lit]; simp
          rw [e]
          exact cell_of _ _ _ _ 82 x hn hj
        have b1 : ((inO m k).length + 1) * 32 ≤ room := by unfold room; omega
        have b2 : (inO m k).length + 1 ≤ maxLen := by unfold maxLen; omega
        have hwz : w.heap.size ≤ (w2.alloc (.cells #[.int .i64 (k : Int), .slice (some ⟨g2, 0, none⟩) l.length cap] 82)).heap.size := by have := hB4.size; simp; omega
        have hend : ∀ v' w4, w4.ownsRow w.heap.size 82 2 v' ((inO m k).length + 1) (bcs (inO m k) gs ++ bc ((k : Int), l) (g2, cap)) → Grew (w2.alloc (.cells #[.int .i64 (k : Int), .slice (some ⟨g2, 0, none⟩) l.length cap] 82)) w4 u3 v' →
            OI w4 w.heap.size v' (inO m (k + 1)) (gs ++ [(g2, cap)]) ∧ Below w.heap.size w w4 := by
          intro v' w4 ho hg
          rw [← hW1] at hg
          rw [hin]
          have hr4 : Row W1 wr.heap.size (.slice (some ⟨g2, 0, none⟩) l.length cap) l := by
            rw [hW1]; exact Row.below hu ((Below.refl _ _).alloc (Nat.le_refl _) _)
          refine ⟨hO.snoc hB.size ((k : Int), l) g2 cap hbl hr4 hg ho, ?_⟩
          refine hg.belowAll (fun x e => (hO.row.lt x e).1) (N := w.heap.size) (W0 := w) ?_ (Nat.le_refl _)
          rw [hW1]; exact hB4.alloc hB4.size _
        have HE : Hid _ := hend
        clear hW1 hbl hend hO hB hB4 hin hu hb2 hlen hl
        go_wp2_with (first | (at_builtin; refine wpList_append_row _ rfl _ _ 83 82 _ 2 32 Tryz.underlying83 info37 rfl (by decide) rfl w.heap.size _ _ _ rfl hown _ 1 (bc ((k : Int), l) (g2, cap)) rfl hcs b1 b2 hwz ?_))
        intro v' w4 ho hg
        obtain ⟨hO2, hB2⟩ := HE.out v' w4 ho hg
        have HO2 : Hid _ := hO2
        have HB2 : Hid _ := hB2
        clear hO2 hB2 ho hg hown hcs HE
        go_wp2
        go_roundw
        case rel =>
          first
            | exact ⟨k + 1, _, by omega, by go_num, HO2.out, HB2.out⟩
            | ((repeat apply Exists.intro); refine ⟨⟨k + 1, _, by omega, ?_, HO2.out, HB2.out⟩, rfl⟩; go_num)
        case measure => simp [intOf]; omega
    · obtain rfl : k = 16 := by omega
      go_wp2
      go_ret
      exact ⟨_, _, rfl, hO, hB⟩
end Go.Proofs.YtgponcjjnjpfkaaGreat.M
