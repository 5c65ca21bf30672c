import Derived.Test.YtgponcjjnjpfkaaGreatG5
import Derived.BigQuiet
import Derived.Deep.RegionHeld
import Derived.Deep.OwnRows
import Derived.Laws.OwnMore
import Derived.Deep.RegionHeldLaw
/-! The reference's return stack; its Need. -/
namespace Go.Proofs.YtgponcjjnjpfkaaGreat.S
open Go.RowKit
open Go.Proofs
set_option linter.unusedVariables false
set_option linter.unusedSimpArgs false
/-- The reference's return stack. -/
structure QV (W : World) (B bq : Nat) (qv : Value) (D : List (Int × Int)) : Prop where
  blk : W.heap[bq]? = some (.cells [qv].toArray 91 (0, 0))
  row : RowK W B qv D
  hb : B ≤ bq
  len : D.length ≤ 128
theorem QV.kt {S : TypeId → Prop} {B0 : Nat} {W W' : World} {B bq : Nat} {qv : Value} {D : List (Int × Int)} (h : QV W B bq qv D) (k : KT S B0 W W') (h1 : ¬ S 91) (h2 : ¬ S 44) : QV W' B bq qv D :=
  ⟨k.typ _ _ _ _ h.blk h1, k.own h.row h2, h.hb, h.len⟩
theorem rowK_pos {W : World} {B : Nat} {v : Value} {l : List (Int × Int)} (h : RowK W B v l) (h0 : 0 < l.length) : ∃ g cap, v = .slice (some ⟨g, 0, none⟩) l.length cap ∧ B ≤ g ∧ l.length ≤ cap := by
  rcases h.2 with ⟨_, h⟩ | ⟨g, cap, cur, h1, h2, h3, h4, _⟩
  · omega
  · exact ⟨g, cap, h1, h2, h4⟩
theorem rowK_get {W : World} {B g cap : Nat} {l : List (Int × Int)} (h : RowK W B (.slice (some ⟨g, 0, none⟩) l.length cap) l) (i : Nat) (a : Int × Int) (ha : l[i]? = some a) : W.cell? ⟨g, i * 2, none⟩ = some (.int .i64 a.1) ∧ W.cell? ⟨g, i * 2 + 1, none⟩ = some (.int .u16 a.2) := by
  rcases h.ls with ⟨e, _⟩ | ⟨x, c, e, _, hs⟩
  · cases e
  · simp only [Value.slice.injEq, true_and] at e
    obtain ⟨e, rfl⟩ := e
    obtain ⟨b, o, e1, e2, e3⟩ := hs.k i a ha
    rw [← e] at e1
    simp only [Option.some.injEq, Addr.mk.injEq] at e1
    obtain ⟨rfl, rfl, _⟩ := e1
    rw [Nat.zero_add] at e2 e3
    exact ⟨e2, e3⟩
/-- An own row with one cell set. -/
theorem own_set {W : World} {B : Nat} {e : TypeId} {size g n cap : Nat} {xs : List Value} (h : W.ownsRow B e size (.slice (some ⟨g, 0, none⟩) n cap) n xs) (i : Nat) (hi : i < xs.length) (u : Value) : (W.setCell ⟨g, i, none⟩ u).ownsRow B e size (.slice (some ⟨g, 0, none⟩) n cap) n (xs.set i u) := by
  rcases h.2 with ⟨h, _⟩ | ⟨g', cap', cur, h1, h2, h3, h4, h5, h6, h7⟩
  · cases h
  · simp only [Value.slice.injEq, Option.some.injEq, Addr.mk.injEq, true_and, and_true] at h1
    obtain ⟨rfl, rfl⟩ := h1
    obtain ⟨cl⟩ := cur
    have hx : xs.length = n * size := h.1
    refine ⟨by rw [List.length_set]; exact hx, .inr ⟨g, cap, (cl.set i u).toArray, rfl, h2, setCell_heap W g i cl e u h3, h4, h5, ?_, ?_⟩⟩
    · simpa using h6
    · simp only at h7 ⊢
      rw [← h7, List.take_set]
theorem enK_set (T : List (Int × Int)) (k v x : Int) : (en eK (T ++ [(k, v)])).set (T.length * 2 + 1) (.int .u16 x) = en eK (T ++ [(k, x)]) := by
  have e2 : (en eK T).length = T.length * 2 := by rw [en_len hK]
  rw [en_append, en_append, List.set_append_right _ _ (by omega), e2, show T.length * 2 + 1 - T.length * 2 = 1 by omega]
  rfl
set_option maxHeartbeats 1000000
set_option maxRecDepth 100000
end Go.Proofs.YtgponcjjnjpfkaaGreat.S
/-! bytes.Clone, slices.Clone, Tones, Screen; awake. -/
namespace Go.Proofs.YtgponcjjnjpfkaaGreat.M
open Go.RowKit
open Go.Proofs
set_option linter.unusedVariables false
set_option linter.unusedSimpArgs false
theorem Grew.belowAll {W W' : World} {v v' : Value} (h : Grew W W' v v') {N : Nat} (hB : ∀ g, v.ownBlock = some g → N ≤ g) {W0 : World} (h0 : Below N W0 W) (hN : N ≤ W0.heap.size) : Below N W0 W' :=
  h0.trans (h.below hB (Nat.le_trans hN h0.size))
theorem HasM.below {W W' : World} {F : Nat → Prop} {b : Nat} {m : MS} (h : HasM W F b m) (k : Below W.heap.size W W') : HasM W' F b m := h.kept fun i hi _ => k.block i hi
theorem eql_nil (t e : TypeId) (ht : Tryz.prog.underlying t = some (.slice e)) (W : World) (p : Option Addr) (n c : Nat) : (binOp .eql t (.slice p n c) (.slice none 0 0)).run Tryz.prog W = .ok (.bool p.isNone) W := by
  have h : ∀ d : Nat, (Op.equalIn (d + 1) t (.slice p n c) (.slice none 0 0)).run Tryz.prog W = .ok p.isNone W := fun d => by
    cases p <;> simp [Op.equalIn, run_underlying ht]
  have h2 : (Op.equal t (.slice p n c) (.slice none 0 0)).run Tryz.prog W = .ok p.isNone W := h 9999
  simp [binOp, h2]
set_option maxHeartbeats 1000000
set_option maxRecDepth 100000
theorem clone_any (v : Value) (l : List UInt8) (hl : l.length ≤ room) (w : World) (h : Sl w v l) :
    Calls Tryz.prog 81 #[v] w fun e w' => ∃ u, e = .returned u ∧ Row w' w.heap.size u l ∧ Below w.heap.size w w' := by
  have h0 := h
  rcases h with ⟨rfl, rfl⟩ | ⟨x, c, rfl, _, hc⟩
  · have hn := fun (W : World) => eql_nil 80 5 Tryz.underlying80 W none 0 0
    go_enter Tryz.func81, Tryz.ntmps81
    go_wp2
    go_ret
    exact ⟨_, rfl, row_nil _ _, Below.refl _ _⟩
  · have hr0 : Row (w.alloc (.cells #[] 5)) w.heap.size (.slice (some ⟨w.heap.size, 0, none⟩) 0 0) [] := row_of_alloc w w.heap.size (Nat.le_refl _) [] (by simp)
    have hb0 : Below w.heap.size w (w.alloc (.cells #[] 5)) := (Below.refl _ _).alloc (Nat.le_refl _) _
    have hs0 := h0.below hb0
    have hn := fun (W : World) => eql_nil 80 5 Tryz.underlying80 W (some x) l.length c
    go_enter Tryz.func81, Tryz.ntmps81
    go_wp2_with (first | (at_builtin; refine wpList_append_bytes _ rfl _ _ rfl w.heap.size _ [] rfl hr0 _ l rfl hs0 (by simpa using hl) hb0.size ?_))
    intro v' w' hr hg
    go_wp2
    go_ret
    exact ⟨_, rfl, hr, hg.belowAll (fun g e => (hr0.lt g e).1) hb0 (Nat.le_refl _)⟩
/-- A list of tones in new memory. -/
def TRow (W : World) (B : Nat) (v : Value) (l : List (Int × Int × Int)) : Prop := W.ownsRow B 53 3 v l.length (tc l)
theorem TRow.cs {W : World} {B : Nat} {v : Value} {l : List (Int × Int × Int)} (h : TRow W B v l) : Cs W v 3 l.length (tc l) := by
  have h' := h
  rcases h.2 with ⟨rfl, e⟩ | ⟨g, cap, cur, rfl, _⟩
  · exact .inl ⟨rfl, e, by rw [List.eq_nil_of_length_eq_zero e]; rfl⟩
  · refine .inr ⟨_, cap, rfl, tc_len l, World.ownsRow.cells h' rfl, tc_one l⟩
theorem Cs.below {W W' : World} {u : Value} {s n : Nat} {xs : List Value} (h : Cs W u s n xs) (b : Below W.heap.size W W') : Cs W' u s n xs := by
  rcases h with h | ⟨ad, c, e1, e2, e3, e4⟩
  · exact .inl h
  · exact .inr ⟨ad, c, e1, e2, fun j v hj => by have e := e3 j v hj; rw [b.cell (World.block_lt_of_cell? W _ e)]; exact e, e4⟩
theorem cloneT_any (v : Value) (l : List (Int × Int × Int)) (hl : l.length ≤ 1000000) (w : World) (h : TRow w 0 v l) :
    Calls Tryz.prog 53 #[v] w fun e w' => ∃ u, e = .returned u ∧ TRow w' w.heap.size u l ∧ Below w.heap.size w w' := by
  have h0 := h
  rcases h.2 with ⟨rfl, e⟩ | ⟨g, cap, cur, rfl, _⟩
  · have hn := fun (W : World) => eql_nil 50 53 Tryz.underlying50 W none 0 0
    obtain rfl := List.eq_nil_of_length_eq_zero e
    go_enter Tryz.func53, Tryz.ntmps53
    go_wp2
    go_ret
    exact ⟨_, rfl, World.ownsRow_nil _ _ _ _, Below.refl _ _⟩
  · have hr0 : (w.alloc (.cells #[] 53)).ownsRow w.heap.size 53 3 (.slice (some ⟨w.heap.size, 0, none⟩) 0 0) 0 [] :=
      ⟨rfl, .inr ⟨w.heap.size, 0, #[], rfl, Nat.le_refl _, heap_alloc_new w _, Nat.le_refl _, by decide, by simp, by simp⟩⟩
    have hb0 : Below w.heap.size w (w.alloc (.cells #[] 53)) := (Below.refl _ _).alloc (Nat.le_refl _) _
    have hs0 := h0.cs.below hb0
    have hn := fun (W : World) => eql_nil 50 53 Tryz.underlying50 W (some ⟨g, 0, none⟩) l.length cap
    go_enter Tryz.func53, Tryz.ntmps53
    go_wp2_with (first | (at_builtin; refine wpList_append_row _ rfl _ _ 50 53 _ 3 16 Tryz.underlying50 info90 rfl (by decide) rfl w.heap.size _ 0 [] rfl hr0 _ l.length (tc l) rfl hs0 (by unfold room; omega) (by unfold maxLen; omega) hb0.size ?_))
    intro v' w' hr hg
    go_wp2
    go_ret
    refine ⟨_, rfl, ?_, hg.belowAll (fun g e => (hr0.lt g e).1) hb0 (Nat.le_refl _)⟩
    simpa [TRow] using hr
theorem tones_any (b : Nat) (w : World) {F : Nat → Prop} {m : MS} (hm : HasM w F b m) (ht : m.tones.length ≤ 1000000) :
    Calls Tryz.prog 22 #[.pointer (some ⟨b, 0, none⟩)] w fun e w' => ∃ u, e = .returned u ∧ TRow w' w.heap.size u m.tones ∧ Below w.heap.size w w' := by
  obtain ⟨mb, L, tv, hm⟩ := hm
  have c6 := cell_of w b (19457 + 6) _ 119 _ hm.blk ((mcells_reg mb m tv hm.wf 6).trans rfl)
  simp only [Nat.reduceAdd] at c6
  have hc := cloneT_any tv m.tones ht w hm.tones
  go_enter Tryz.func22, Tryz.ntmps22
  go_wp2_with fail
  refine hc.mono ?_
  rintro e w1 ⟨u, rfl, h1, h2⟩
  go_wp2
  go_ret
  exact ⟨_, rfl, h1, h2⟩
theorem tones_nil (w : World) : Calls Tryz.prog 22 #[.pointer none] w fun e w' => e = .returned (.slice none 0 0) ∧ w' = w := by
  go_enter Tryz.func22, Tryz.ntmps22
  go_wp2
  go_ret
  exact ⟨rfl, rfl⟩
theorem screen_nil (w : World) : Calls Tryz.prog 82 #[.pointer none] w fun e w' => e = .returned (.slice none 0 0) ∧ w' = w := by
  go_enter Tryz.func82, Tryz.ntmps82
  go_wp2
  go_ret
  exact ⟨rfl, rfl⟩
theorem screen_any (b : Nat) (w : World) {F : Nat → Prop} {m : MS} (hm : HasM w F b m) :
    Calls Tryz.prog 82 #[.pointer (some ⟨b, 0, none⟩)] w fun e w' => ∃ u, e = .returned u ∧ Row w' w.heap.size u m.scr ∧ Below w.heap.size w w' := by
  obtain ⟨mb, L, tv, hm⟩ := hm
  have hs : Sl w (.slice (some ⟨b, 16385, none⟩) 3072 3072) m.scr := by
    refine .inr ⟨⟨b, 16385, none⟩, 3072, by rw [hm.wf.scr], by rw [hm.wf.scr]; omega, fun j x hj => ?_⟩
    have e : (⟨b, 16385, none⟩ : Addr).add j = ⟨b, 16385 + j, none⟩ := Addr.add_lit _ _ _
    rw [e]; exact cell_of w b _ _ 119 _ hm.blk (mcells_scr mb m tv hm.wf j x hj)
  have hc := clone_any _ m.scr (by rw [hm.wf.scr]; unfold room; omega) w hs
  go_enter Tryz.func82, Tryz.ntmps82
  go_wp2_with fail
  refine hc.mono ?_
  rintro e w1 ⟨u, rfl, h1, h2⟩
  go_wp2
  go_ret
  exact ⟨_, rfl, h1, h2⟩
end Go.Proofs.YtgponcjjnjpfkaaGreat.M
/-! awake. -/
namespace Go.Proofs.YtgponcjjnjpfkaaGreat.M
open Go.RowKit
open Go.Proofs
set_option linter.unusedVariables false
set_option linter.unusedSimpArgs false
theorem Done.below {w w' : World} {B : Nat} {b : Nat} {m : MS} (h : Done w w' (fun k => B ≤ k) b m) (hB : B ≤ w.heap.size) : HasM w' (fun k => B ≤ k) b m ∧ Below B w w' :=
  ⟨h.1.mono fun i hi g => by rcases g with g | ⟨g, _⟩ <;> omega, h.2.below hB fun i f => f⟩
set_option maxHeartbeats 2000000
set_option maxRecDepth 100000
end Go.Proofs.YtgponcjjnjpfkaaGreat.M
/-! own, ownBanks: banks in new memory, a mark behind each. -/
namespace Go.Proofs.YtgponcjjnjpfkaaGreat.M
open Go.RowKit
open Go.Proofs
set_option linter.unusedVariables false
set_option linter.unusedSimpArgs false
theorem info37 : (Tryz.prog.info? 82).map (fun i => (i.zero, i.size, i.bytes)) = some (some (.agg #[.int .i64 0, .slice none 0 0]), 2, 32) := by kernel_rfl
def bc (t : Int × List UInt8) (g : Nat × Nat) : List Value := [.int .i64 t.1, .slice (some ⟨g.1, 0, none⟩) t.2.length g.2]
def bcs : List (Int × List UInt8) → List (Nat × Nat) → List Value
  | t :: bs, g :: gs => bc t g ++ bcs bs gs
  | _, _ => []
theorem bcs_len : ∀ (bs : List (Int × List UInt8)) (gs : List (Nat × Nat)), gs.length = bs.length → (bcs bs gs).length = bs.length * 2
  | [], [], _ => rfl
  | t :: bs, g :: gs, h => by simp [bcs, bc, bcs_len bs gs (by simpa using h)]; omega
theorem bcs_snoc : ∀ (bs : List (Int × List UInt8)) (gs : List (Nat × Nat)) (t : Int × List UInt8) (g : Nat × Nat), gs.length = bs.length → bcs (bs ++ [t]) (gs ++ [g]) = bcs bs gs ++ bc t g
  | [], [], t, g, _ => by simp [bcs]
  | u :: bs, x :: gs, t, g, h => by simp [bcs, bcs_snoc bs gs t g (by simpa using h)]
theorem bcs_get : ∀ (bs : List (Int × List UInt8)) (gs : List (Nat × Nat)) (i : Nat) (t : Int × List UInt8) (g : Nat × Nat), bs[i]? = some t → gs[i]? = some g → (bcs bs gs)[i * 2]? = some (.int .i64 t.1) ∧ (bcs bs gs)[i * 2 + 1]? = some (.slice (some ⟨g.1, 0, none⟩) t.2.length g.2)
  | u :: bs, x :: gs, 0, t, g, h1, h2 => by simp at h1 h2; subst h1 h2; exact ⟨rfl, rfl⟩
  | u :: bs, x :: gs, i + 1, t, g, h1, h2 => by
    have := bcs_get bs gs i t g (by simpa using h1) (by simpa using h2)
    simp only [bcs, bc]
    rw [show (i + 1) * 2 = i * 2 + 1 + 1 by omega]
    exact this
theorem bcs_one : ∀ (bs : List (Int × List UInt8)) (gs : List (Nat × Nat)), ∀ u ∈ bcs bs gs, u.oneCell' = true
  | t :: bs, g :: gs, u, h => by
    simp only [bcs, bc, List.cons_append, List.nil_append, List.mem_cons] at h
    rcases h with rfl | rfl | h
    · rfl
    · rfl
    · exact bcs_one bs gs u h
  | [], _, u, h => by simp [bcs] at h
  | t :: bs, [], u, h => by simp [bcs] at h
/-- Banks in new memory, with a mark behind each. -/
structure OB (W : World) (B : Nat) (v : Value) (bs : List (Int × List UInt8)) (gs : List (Nat × Nat)) : Prop where
  len : gs.length = bs.length
  row : W.ownsRow B 82 2 v bs.length (bcs bs gs)
  dat : ∀ (i : Nat) (t : Int × List UInt8) (g : Nat × Nat), bs[i]? = some t → gs[i]? = some g → Row W B (.slice (some ⟨g.1, 0, none⟩) (t.2.length + 1) g.2) (t.2 ++ [90])
  nd : (gs.map Prod.fst).Nodup
theorem row_pre {W : World} {B : Nat} {g c n : Nat} {l m : List UInt8} (h : Row W B (.slice (some ⟨g, 0, none⟩) n c) (l ++ m)) : Sl W (.slice (some ⟨g, 0, none⟩) l.length c) l := by
  have h' := h
  rcases h.2 with ⟨e, _⟩ | ⟨g', cap, cur, e, _, hg, hcap, _⟩
  · cases e
  · simp only [Value.slice.injEq, Option.some.injEq, Addr.mk.injEq, and_true, true_and] at e
    obtain ⟨rfl, _, rfl⟩ := e
    refine .inr ⟨_, c, rfl, by simp at hcap; omega, fun j b hj => ?_⟩
    have hj2 : (l ++ m)[j]? = some b := by rw [List.getElem?_append_left (List.getElem?_eq_some_iff.1 hj).1]; exact hj
    exact World.ownsRow.cells h' (g := g) rfl j _ ((bv_get _ j _).2 ⟨b, hj2, rfl⟩)
theorem OB.ex {W : World} {B : Nat} {v : Value} {bs : List (Int × List UInt8)} {gs : List (Nat × Nat)} (h : OB W B v bs gs) (hl : ∀ t ∈ bs, t.2.length ≤ room) : ∃ p c, v = .slice p bs.length c ∧ BnS W p bs := by
  rcases h.row.2 with ⟨rfl, e⟩ | ⟨g, cap, cur, rfl, _⟩
  · have : bs = [] := List.eq_nil_of_length_eq_zero e
    subst this
    exact ⟨none, 0, rfl, fun i t ht => by simp at ht⟩
  · refine ⟨_, cap, rfl, fun i t ht => ?_⟩
    have hi := (List.getElem?_eq_some_iff.1 ht).1
    have hig : i < gs.length := by rw [h.len]; exact hi
    have hg : gs[i]? = some gs[i] := List.getElem?_eq_getElem hig
    obtain ⟨k1, k2⟩ := bcs_get bs gs i t _ ht hg
    have c1 := World.ownsRow.cells h.row (g := g) rfl _ _ k1
    have c2 := World.ownsRow.cells h.row (g := g) rfl _ _ k2
    rw [Addr.add_lit] at c1 c2
    refine ⟨g, 0, _, rfl, c1, c2, row_pre (h.dat i t _ ht hg), hl t (List.mem_of_getElem? ht)⟩
theorem OB.kept {W W' : World} {B : Nat} {v : Value} {bs : List (Int × List UInt8)} {gs : List (Nat × Nat)} (h : OB W B v bs gs) (k : ∀ i, B ≤ i → i < W.heap.size → W'.heap[i]? = W.heap[i]?) : OB W' B v bs gs :=
  ⟨h.len, own_kept h.row fun g e hg => k g (h.row.lt g e).1 hg, fun i t g h1 h2 => own_kept (h.dat i t g h1 h2) fun x e hg => k x ((h.dat i t g h1 h2).lt x e).1 hg, h.nd⟩
theorem OB.below {W W' : World} {B : Nat} {v : Value} {bs : List (Int × List UInt8)} {gs : List (Nat × Nat)} (h : OB W B v bs gs) (k : Below W.heap.size W W') : OB W' B v bs gs := h.kept fun i _ hi => k.block i hi
/-- One bank more. -/
theorem OB.snoc {W W1 W2 : World} {B : Nat} {v v' : Value} {bs : List (Int × List UInt8)} {gs : List (Nat × Nat)} (h : OB W B v bs gs) (hB : B ≤ W.heap.size) (t : Int × List UInt8) (g c : Nat) (hb : Below W.heap.size W W1)
    (hd : Row W1 W.heap.size (.slice (some ⟨g, 0, none⟩) (t.2.length + 1) c) (t.2 ++ [90])) (hg : Grew W1 W2 v v') (hr : W2.ownsRow B 82 2 v' (bs.length + 1) (bcs bs gs ++ bc t (g, c))) :
    OB W2 B v' (bs ++ [t]) (gs ++ [(g, c)]) := by
  have hlt : ∀ (i : Nat) (x : Int × List UInt8) (y : Nat × Nat), bs[i]? = some x → gs[i]? = some y → y.1 < W.heap.size := fun i x y h1 h2 => ((h.dat i x y h1 h2).lt y.1 rfl).2
  have hmem : ∀ y ∈ gs, y.1 < W.heap.size := by
    intro y hy
    obtain ⟨i, hi, e⟩ := List.mem_iff_getElem.1 hy
    have hb' : i < bs.length := by rw [← h.len]; exact hi
    exact hlt i bs[i] y (List.getElem?_eq_getElem hb') (by rw [List.getElem?_eq_getElem hi, e])
  have hgw : W.heap.size ≤ g := (hd.lt g rfl).1
  have nv : ∀ k cur, W1.heap[k]? = some (.cells cur 5 (0, 0)) → some k ≠ v.ownBlock := by
    intro k cur e1 e2
    obtain ⟨cur2, e3⟩ := own_block h.row k e2.symm
    have := (hb.block k (lt_of e3)).trans e3
    rw [e1] at this
    simp at this
  have kp : ∀ {x : Value} {n xs}, W1.ownsRow B 5 1 x n xs → W2.ownsRow B 5 1 x n xs := fun hx => own_kept hx fun k e hk => by
    obtain ⟨cur, e1⟩ := own_block hx k e
    exact hg.block k hk (nv k cur e1)
  refine ⟨by simp [h.len], ?_, ?_, ?_⟩
  · rw [bcs_snoc bs gs t (g, c) h.len, List.length_append]; exact hr
  · intro i x y h1 h2
    by_cases hi : i < bs.length
    · rw [List.getElem?_append_left hi] at h1
      rw [List.getElem?_append_left (by rw [h.len]; exact hi)] at h2
      exact kp (Row.below (h.dat i x y h1 h2) hb)
    · rw [List.getElem?_append_right (by omega)] at h1
      rw [List.getElem?_append_right (by rw [h.len]; omega)] at h2
      have e0 : i - bs.length = 0 := by
        have := (List.getElem?_eq_some_iff.1 h1).1; simp at this; omega
      rw [e0] at h1; rw [h.len, e0] at h2
      simp at h1 h2; subst h1 h2
      exact kp (Row.mono hd hB)
  · rw [List.map_append, List.nodup_append]
    refine ⟨h.nd, by simp, ?_⟩
    intro a ha b hb' e
    simp at hb'
    simp only [List.mem_map] at ha
    obtain ⟨y, hy, rfl⟩ := ha
    have := hmem y hy
    omega
set_option maxHeartbeats 2000000
set_option maxRecDepth 100000
theorem slice_to (W : World) (p : Option Addr) (n cap h : Nat) (z : Int) (hz : z = (h : Int)) (hc : h ≤ cap) : (Instr.sliceAt 80 (.slice p n cap) none (some (.int .i64 z)) none).run Tryz.prog W = .ok (.slice p h cap) W := by
  subst hz
  have elem35 : Tryz.prog.underlying 80 = some (.slice (Tryz.prog.elem 80)) := by kernel_rfl
  have size5 : (sizeOf (Tryz.prog.elem 80)).run Tryz.prog W = .ok 1 W := by
    have e : Tryz.prog.elem 80 = 5 := by kernel_rfl
    rw [e]
    exact Tryz.sizeOf5 W
  have e0 : Option.map (fun x : Addr => x.add 0) p = p := by cases p <;> simp [Addr.add]
  rw [run_sliceAt_slice W 80 _ _ _ _ elem35, run_slice_h W 80 p n cap elem35 .i64 (h : Int) (by omega) (by omega), size5]
  simp [Result.andThen, sliced, e0]
end Go.Proofs.YtgponcjjnjpfkaaGreat.M
/-! SameBanks, SameImage, image. -/
namespace Go.Proofs.YtgponcjjnjpfkaaGreat.M
open Go.RowKit
open Go.Proofs
set_option linter.unusedVariables false
set_option linter.unusedSimpArgs false
theorem Sl.conv {W : World} {v : Value} {l : List UInt8} (h : Sl W v l) : (convert 80 9 v).run Tryz.prog W = .ok (.string ⟨l.toArray⟩) W := by
  rcases h with ⟨rfl, rfl⟩ | ⟨x, c, rfl, _, h⟩
  · rw [run_convert_bytes_string W 80 9 5 none 0 0 Tryz.underlying80 Tryz.underlying5 Tryz.underlying9]; rfl
  · exact run_convert_bytes_back (P := Tryz.prog) W 80 9 5 x c l Tryz.underlying80 Tryz.underlying5 Tryz.underlying9 (fun j hj => h j _ (by simp))
set_option maxHeartbeats 2000000
set_option maxRecDepth 100000
theorem sameBanks_any (p p' : Option Addr) (c c' : Nat) (bs : List (Int × List UInt8)) (hl : bs.length ≤ room) (w : World) (h : BnS w p bs) (h' : BnS w p' bs) :
    Calls Tryz.prog 84 #[.slice p bs.length c, .slice p' bs.length c'] w fun e w' => e = .returned (.bool true) ∧ ∃ q, w' = w.drewN q := by
  unfold room at hl
  go_enter Tryz.func84, Tryz.ntmps84
  go_wp2
  go_loopw [13] (fun i wr => ∃ k q : Nat, k ≤ bs.length ∧ i = .int .i64 (k : Int) ∧ wr = w.drewN q) (fun i _ => bs.length - (intOf i).toNat)
  case atStart => exact ⟨0, 0, by omega, rfl, rfl⟩
  case round =>
    obtain ⟨k, q, hk, rfl, rfl⟩ := hrel
    by_cases hlt : k < bs.length
    · have i1 : (k : Int) < bs.length := by omega
      obtain ⟨b, o, dv, rfl, e1, e2, e3, e4⟩ := h k bs[k] (List.getElem?_eq_getElem hlt)
      obtain ⟨b', o', dv', rfl, f1, f2, f3, f4⟩ := h' k bs[k] (List.getElem?_eq_getElem hlt)
      have v1 := fun q => Sl.conv (W := w.drewN q) e3
      have v2 := fun q => Sl.conv (W := w.drewN q) f3
      obtain ⟨dp, dc, rfl, _⟩ := e3.ex
      obtain ⟨dp', dc', rfl, _⟩ := f3.ex
      generalize hn : (bs[k]).1 = n at *
      generalize hL : (bs[k]).2.length = L at *
      generalize hs : (⟨(bs[k]).2.toArray⟩ : ByteArray) = s at *
      clear e3 f3
      have g1 : ∀ q, (w.drewN q).cell? ⟨b, o + k * 2, none⟩ = some (.int .i64 n) := fun q => e1
      have g2 : ∀ q, (w.drewN q).cell? ⟨b, o + k * 2 + 1, none⟩ = some (.slice dp L dc) := fun q => e2
      have g3 : ∀ q, (w.drewN q).cell? ⟨b', o' + k * 2, none⟩ = some (.int .i64 n) := fun q => f1
      have g4 : ∀ q, (w.drewN q).cell? ⟨b', o' + k * 2 + 1, none⟩ = some (.slice dp' L dc') := fun q => f2
      go_wp2_with fail
      go_quiet (fail)
      go_wp2
      go_roundw
      case rel =>
        first
          | exact ⟨k + 1, _, by omega, by go_num, rfl⟩
          | ((repeat apply Exists.intro); refine ⟨⟨k + 1, _, by omega, ?_, rfl⟩, rfl⟩; go_num)
      case measure => simp [intOf]; omega
    · obtain rfl : k = bs.length := by omega
      go_wp2
      go_ret
      exact ⟨rfl, _, rfl⟩
/-- An image, as a value. -/
def img (pb : Option Addr) (nb cb : Nat) (rv sv : Value) (m : MS) : Value := .agg #[.slice pb nb cb, rv, sv, .int .u8 m.ch, .int .u8 m.pad, .int .u16 m.pitch, .int .u8 m.vol, .int .u16 m.time]
theorem sameImage_any (p p' : Option Addr) (c c' : Nat) (bs : List (Int × List UInt8)) (hl : bs.length ≤ room) (rv rv' sv sv' : Value) (ram scr : List UInt8) (m : MS) (w : World) (h : BnS w p bs) (h' : BnS w p' bs)
    (r : Sl w rv ram) (r' : Sl w rv' ram) (s : Sl w sv scr) (s' : Sl w sv' scr) :
    Calls Tryz.prog 58 #[img p bs.length c rv sv m, img p' bs.length c' rv' sv' m] w fun e w' => e = .returned (.bool true) ∧ Below w.heap.size w w' := by
  obtain ⟨W1, hW1⟩ : ∃ W1, W1 = (w.alloc (.cells #[.slice p bs.length c, rv, sv, .int .u8 m.ch, .int .u8 m.pad, .int .u16 m.pitch, .int .u8 m.vol, .int .u16 m.time] 125)).alloc (.cells #[.slice p' bs.length c', rv', sv', .int .u8 m.ch, .int .u8 m.pad, .int .u16 m.pitch, .int .u8 m.vol, .int .u16 m.time] 125) := ⟨_, rfl⟩
  have hB1 : Below w.heap.size w W1 := by rw [hW1]; exact ((Below.refl _ w).alloc (Nat.le_refl _) _).alloc (by simp) _
  have hsb := sameBanks_any p p' c c' bs hl W1 (h.below hB1) (h'.below hB1)
  have v1 := fun q => Sl.conv (W := W1.drewN q) (Sl.below (W' := W1) r hB1)
  have v2 := fun q => Sl.conv (W := W1.drewN q) (Sl.below (W' := W1) r' hB1)
  have v3 := fun q => Sl.conv (W := W1.drewN q) (Sl.below (W' := W1) s hB1)
  have v4 := fun q => Sl.conv (W := W1.drewN q) (Sl.below (W' := W1) s' hB1)
  obtain ⟨rp, rc, rfl, _⟩ := r.ex
  obtain ⟨rp', rc', rfl, _⟩ := r'.ex
  obtain ⟨sp, sc', rfl, _⟩ := s.ex
  obtain ⟨sp', sc'', rfl, _⟩ := s'.ex
  have HB : Hid _ := hB1
  clear hB1 h h' r r' s s'
  subst hW1
  unfold img
  go_enter Tryz.func58, Tryz.ntmps58
  go_wp2_with fail
  refine hsb.mono ?_
  rintro e w2 ⟨rfl, q, rfl⟩
  go_wp2
  go_ret
  exact ⟨rfl, HB.out.os, HB.out.tape, HB.out.output, HB.out.size, HB.out.block⟩
end Go.Proofs.YtgponcjjnjpfkaaGreat.M
/-! banksInOrder, Image. -/
namespace Go.Proofs.YtgponcjjnjpfkaaGreat.M
open Go.RowKit
open Go.Proofs
set_option linter.unusedVariables false
set_option linter.unusedSimpArgs false
/-- Banks in new memory. -/
structure OI (W : World) (B : Nat) (v : Value) (bs : List (Int × List UInt8)) (gs : List (Nat × Nat)) : Prop where
  len : gs.length = bs.length
  row : W.ownsRow B 82 2 v bs.length (bcs bs gs)
  dat : ∀ (i : Nat) (t : Int × List UInt8) (g : Nat × Nat), bs[i]? = some t → gs[i]? = some g → Row W B (.slice (some ⟨g.1, 0, none⟩) t.2.length g.2) t.2
  nd : (gs.map Prod.fst).Nodup
theorem OI.ex {W : World} {B : Nat} {v : Value} {bs : List (Int × List UInt8)} {gs : List (Nat × Nat)} (h : OI W B v bs gs) (hl : ∀ t ∈ bs, t.2.length ≤ room) : ∃ p c, v = .slice p bs.length c ∧ BnS W p bs := by
  rcases h.row.2 with ⟨rfl, e⟩ | ⟨g, cap, cur, rfl, _⟩
  · have : bs = [] := List.eq_nil_of_length_eq_zero e
    subst this
    exact ⟨none, 0, rfl, fun i t ht => by simp at ht⟩
  · refine ⟨_, cap, rfl, fun i t ht => ?_⟩
    have hi := (List.getElem?_eq_some_iff.1 ht).1
    have hig : i < gs.length := by rw [h.len]; exact hi
    have hg : gs[i]? = some gs[i] := List.getElem?_eq_getElem hig
    obtain ⟨k1, k2⟩ := bcs_get bs gs i t _ ht hg
    have c1 := World.ownsRow.cells h.row (g := g) rfl _ _ k1
    have c2 := World.ownsRow.cells h.row (g := g) rfl _ _ k2
    rw [Addr.add_lit] at c1 c2
    refine ⟨g, 0, _, rfl, c1, c2, Row.sl (h.dat i t _ ht hg), hl t (List.mem_of_getElem? ht)⟩
theorem OI.kept {W W' : World} {B : Nat} {v : Value} {bs : List (Int × List UInt8)} {gs : List (Nat × Nat)} (h : OI W B v bs gs) (k : ∀ i, B ≤ i → i < W.heap.size → W'.heap[i]? = W.heap[i]?) : OI W' B v bs gs :=
  ⟨h.len, own_kept h.row fun g e hg => k g (h.row.lt g e).1 hg, fun i t g h1 h2 => own_kept (h.dat i t g h1 h2) fun x e hg => k x ((h.dat i t g h1 h2).lt x e).1 hg, h.nd⟩
theorem OI.below {W W' : World} {B : Nat} {v : Value} {bs : List (Int × List UInt8)} {gs : List (Nat × Nat)} (h : OI W B v bs gs) (k : Below W.heap.size W W') : OI W' B v bs gs := h.kept fun i _ hi => k.block i hi
/-- One bank more. -/
theorem OI.snoc {W W1 W2 : World} {B : Nat} {v v' : Value} {bs : List (Int × List UInt8)} {gs : List (Nat × Nat)} (h : OI W B v bs gs) (hB : B ≤ W.heap.size) (t : Int × List UInt8) (g c : Nat) (hb : Below W.heap.size W W1)
    (hd : Row W1 W.heap.size (.slice (some ⟨g, 0, none⟩) t.2.length c) t.2) (hg : Grew W1 W2 v v') (hr : W2.ownsRow B 82 2 v' (bs.length + 1) (bcs bs gs ++ bc t (g, c))) :
    OI W2 B v' (bs ++ [t]) (gs ++ [(g, c)]) := by
  have hlt : ∀ (i : Nat) (x : Int × List UInt8) (y : Nat × Nat), bs[i]? = some x → gs[i]? = some y → y.1 < W.heap.size := fun i x y h1 h2 => ((h.dat i x y h1 h2).lt y.1 rfl).2
  have hmem : ∀ y ∈ gs, y.1 < W.heap.size := by
    intro y hy
    obtain ⟨i, hi, e⟩ := List.mem_iff_getElem.1 hy
    have hb' : i < bs.length := by rw [← h.len]; exact hi
    exact hlt i bs[i] y (List.getElem?_eq_getElem hb') (by rw [List.getElem?_eq_getElem hi, e])
  have hgw : W.heap.size ≤ g := (hd.lt g rfl).1
  have nv : ∀ k cur, W1.heap[k]? = some (.cells cur 5 (0, 0)) → some k ≠ v.ownBlock := by
    intro k cur e1 e2
    obtain ⟨cur2, e3⟩ := own_block h.row k e2.symm
    have := (hb.block k (lt_of e3)).trans e3
    rw [e1] at this
    simp at this
  have kp : ∀ {x : Value} {n xs}, W1.ownsRow B 5 1 x n xs → W2.ownsRow B 5 1 x n xs := fun hx => own_kept hx fun k e hk => by
    obtain ⟨cur, e1⟩ := own_block hx k e
    exact hg.block k hk (nv k cur e1)
  refine ⟨by simp [h.len], ?_, ?_, ?_⟩
  · rw [bcs_snoc bs gs t (g, c) h.len, List.length_append]; exact hr
  · intro i x y h1 h2
    by_cases hi : i < bs.length
    · rw [List.getElem?_append_left hi] at h1
      rw [List.getElem?_append_left (by rw [h.len]; exact hi)] at h2
      exact kp (Row.below (h.dat i x y h1 h2) hb)
    · rw [List.getElem?_append_right (by omega)] at h1
      rw [List.getElem?_append_right (by rw [h.len]; omega)] at h2
      have e0 : i - bs.length = 0 := by
        have := (List.getElem?_eq_some_iff.1 h1).1; simp at this; omega
      rw [e0] at h1; rw [h.len, e0] at h2
      simp at h1 h2; subst h1 h2
      exact kp (Row.mono hd hB)
  · rw [List.map_append, List.nodup_append]
    refine ⟨h.nd, by simp, ?_⟩
    intro a ha b hb' e
    simp at hb'
    simp only [List.mem_map] at ha
    obtain ⟨y, hy, rfl⟩ := ha
    have := hmem y hy
    omega

/-- The banks below k that there are, by their numbers. -/
def inO (m : MS) (k : Nat) : List (Int × List UInt8) := (List.range k).filterMap fun n => (m.banks n).map fun l => ((n : Int), l)
theorem inO_none (m : MS) (k : Nat) (h : m.banks k = none) : inO m (k + 1) = inO m k := by simp [inO, List.range_succ, List.filterMap_append, h]
theorem inO_some (m : MS) (k : Nat) (l : List UInt8) (h : m.banks k = some l) : inO m (k + 1) = inO m k ++ [((k : Int), l)] := by simp [inO, List.range_succ, List.filterMap_append, h]
theorem inO_len (m : MS) (k : Nat) : (inO m k).length ≤ k := by
  have := List.length_filterMap_le (fun n => (m.banks n).map fun l => ((n : Int), l)) (List.range k)
  simpa [inO] using this
set_option maxHeartbeats 2000000
set_option maxRecDepth 100000
theorem inOrder_any (b : Nat) (w : World) {F : Nat → Prop} {m : MS} (hm : HasM w F b m) :
    Calls Tryz.prog 80 #[.pointer (some ⟨b, 0, none⟩)] w fun e w' => ∃ u gs, e = .returned u ∧ OI w' w.heap.size u (inO m 16) gs ∧ Below w.heap.size w w' := by
  go_enter Tryz.func80, Tryz.ntmps80
  go_wp2
  go_loopw [3, 6] (fun v i wr => ∃ (k : Nat) (gs : List (Nat × Nat)), k ≤ 16 ∧ i = .int .i64 (k : Int) ∧ OI wr w.heap.size v (inO m k) gs ∧ Below w.heap.size w wr) (fun _ i _ => 16 - (intOf i).toNat)
  case atStart => exact ⟨0, [], by omega, rfl, ⟨rfl, World.ownsRow_nil _ _ _ _, fun i t g h1 _ => by simp [inO] at h1, by simp⟩, Below.refl _ _⟩
  case round =>
    obtain ⟨k, gs, hk, rfl, hO, hB⟩ := hrel
    by_cases hlt : k < 16
    · have i1 : (k : Int) < 16 := by omega
      obtain ⟨mb, L, tv, hm2⟩ := hm.below hB
      have cb := cell_of wr b 0 _ 119 _ hm2.blk (mcells_0 mb m tv)
      cases hbk : m.banks k with
      | none =>
        have hlk := look_none wr mb k L hm2.map (by rintro p hp rfl; obtain ⟨l, e2, _⟩ := hm2.bks p hp; rw [hbk] at e2; cases e2)
        have hO2 : OI wr w.heap.size u3 (inO m (k + 1)) gs := by rw [inO_none m k hbk]; exact hO
        have HO2 : Hid _ := hO2
        have HB : Hid _ := hB
        clear hO hO2 hm2 hB hbk
        go_wp2
        go_roundw
        case rel =>
          first
            | exact ⟨k + 1, _, by omega, by go_num, HO2.out, HB.out⟩
            | ((repeat apply Exists.intro); refine ⟨⟨k + 1, _, by omega, ?_, HO2.out, HB.out⟩, rfl⟩; go_num)
        case measure => simp [intOf]; omega
      | some l =>
        obtain ⟨g, hg⟩ := hm2.all _ _ hbk
        obtain ⟨l', e2, hkk⟩ := hm2.bks _ hg
        rw [hbk] at e2; cases e2
        have hlk := look_some wr mb k g L hm2.map hm2.keys hg
        have hl := (hm2.wf.bk _ _ hbk).2
        have hsl : Sl wr (.slice (some ⟨g, 0, none⟩) 16384 16384) l := by
          refine .inr ⟨⟨g, 0, none⟩, 16384, by rw [hl], by rw [hl]; omega, fun j x hj => ?_⟩
          rw [Addr.add_lit, Nat.zero_add]
          exact cell_of wr g _ _ 116 _ hkk ((bv_get l _ _).2 ⟨x, hj, rfl⟩)
        have hcl := clone_any _ l (by rw [hl]; unfold room; omega) wr hsl
        have hin := inO_some m k l hbk
        have hlen := inO_len m k
        clear hm2 hsl hkk hg hbk
        go_wp2_with fail
        refine hcl.mono ?_
        rintro e w2 ⟨u, rfl, hu, hb2⟩
        obtain ⟨g2, cap, rfl⟩ := own_pos hu (by omega)
        have hB4 : Below w.heap.size w w2 := hB.trans (hb2.mono hB.size)
        obtain ⟨W1, hW1⟩ : ∃ W1, W1 = w2.alloc (.cells #[.int .i64 (k : Int), .slice (some ⟨g2, 0, none⟩) l.length cap] 82) := ⟨_, rfl⟩
        have hbl : Below wr.heap.size wr W1 := by rw [hW1]; exact hb2.alloc hb2.size _
        have hown : (w2.alloc (.cells #[.int .i64 (k : Int), .slice (some ⟨g2, 0, none⟩) l.length cap] 82)).ownsRow w.heap.size 82 2 u3 (inO m k).length (bcs (inO m k) gs) := by
          rw [← hW1]; exact own_kept hO.row fun x e hx => hbl.block x hx
        have hcs : Cs (w2.alloc (.cells #[.int .i64 (k : Int), .slice (some ⟨g2, 0, none⟩) l.length cap] 82)) (.slice (some ⟨w2.heap.size, 0, none⟩) 1 1) 2 1 (bc ((k : Int), l) (g2, cap)) := by
          refine .inr ⟨⟨w2.heap.size, 0, none⟩, 1, rfl, rfl, ?_, by intro x hx; simp [bc] at hx; rcases hx with rfl | rfl <;> rfl⟩
          intro j x hj
          have hn : (w2.alloc (.cells #[.int .i64 (k : Int), .slice (some ⟨g2, 0, none⟩) l.length cap] 82)).heap[w2.heap.size]? = some (.cells (bc ((k : Int), l) (g2, cap)).toArray 82 (0, 0)) := heap_alloc_new w2 _
          have e : (⟨w2.heap.size, 0, none⟩ : Addr).add j = ⟨w2.heap.size, j, none⟩ := by rw [Addr.add_lit]; simp
          rw [e]
          exact cell_of _ _ _ _ 82 x hn hj
        have b1 : ((inO m k).length + 1) * 32 ≤ room := by unfold room; omega
        have b2 : (inO m k).length + 1 ≤ maxLen := by unfold maxLen; omega
        have hwz : w.heap.size ≤ (w2.alloc (.cells #[.int .i64 (k : Int), .slice (some ⟨g2, 0, none⟩) l.length cap] 82)).heap.size := by have := hB4.size; simp; omega
        have hend : ∀ v' w4, w4.ownsRow w.heap.size 82 2 v' ((inO m k).length + 1) (bcs (inO m k) gs ++ bc ((k : Int), l) (g2, cap)) → Grew (w2.alloc (.cells #[.int .i64 (k : Int), .slice (some ⟨g2, 0, none⟩) l.length cap] 82)) w4 u3 v' →
            OI w4 w.heap.size v' (inO m (k + 1)) (gs ++ [(g2, cap)]) ∧ Below w.heap.size w w4 := by
          intro v' w4 ho hg
          rw [← hW1] at hg
          rw [hin]
          have hr4 : Row W1 wr.heap.size (.slice (some ⟨g2, 0, none⟩) l.length cap) l := by
            rw [hW1]; exact Row.below hu ((Below.refl _ _).alloc (Nat.le_refl _) _)
          refine ⟨hO.snoc hB.size ((k : Int), l) g2 cap hbl hr4 hg ho, ?_⟩
          refine hg.belowAll (fun x e => (hO.row.lt x e).1) (N := w.heap.size) (W0 := w) ?_ (Nat.le_refl _)
          rw [hW1]; exact hB4.alloc hB4.size _
        have HE : Hid _ := hend
        clear hW1 hbl hend hO hB hB4 hin hu hb2 hlen hl
        go_wp2_with (first | (at_builtin; refine wpList_append_row _ rfl _ _ 83 82 _ 2 32 Tryz.underlying83 info37 rfl (by decide) rfl w.heap.size _ _ _ rfl hown _ 1 (bc ((k : Int), l) (g2, cap)) rfl hcs b1 b2 hwz ?_))
        intro v' w4 ho hg
        obtain ⟨hO2, hB2⟩ := HE.out v' w4 ho hg
        have HO2 : Hid _ := hO2
        have HB2 : Hid _ := hB2
        clear hO2 hB2 ho hg hown hcs HE
        go_wp2
        go_roundw
        case rel =>
          first
            | exact ⟨k + 1, _, by omega, by go_num, HO2.out, HB2.out⟩
            | ((repeat apply Exists.intro); refine ⟨⟨k + 1, _, by omega, ?_, HO2.out, HB2.out⟩, rfl⟩; go_num)
        case measure => simp [intOf]; omega
    · obtain rfl : k = 16 := by omega
      go_wp2
      go_ret
      exact ⟨_, _, rfl, hO, hB⟩
end Go.Proofs.YtgponcjjnjpfkaaGreat.M
/-! The reference: full. -/
namespace Go.Proofs.YtgponcjjnjpfkaaGreat.M
open Go.RowKit
open Go.Proofs
set_option linter.unusedVariables false
set_option linter.unusedSimpArgs false
/-- A row of bytes that fills its block. -/
def B5 (W : World) (g : Nat) (l : List UInt8) : Prop := W.heap[g]? = some (.cells (bv l).toArray 5 (0, 0))
def padN (n : Nat) (l : List UInt8) : List UInt8 := l ++ List.replicate (n - l.length) 0
theorem padN_len (n : Nat) (l : List UInt8) (h : l.length ≤ n) : (padN n l).length = n := by rw [padN, List.length_append, List.length_replicate]; omega
theorem padN_full (n : Nat) (l : List UInt8) (h : l.length = n) : padN n l = l := by rw [padN, h, Nat.sub_self]; simp
/-- The first k are written. -/
def fl (n : Nat) (l : List UInt8) (k : Nat) : List UInt8 := l.take k ++ List.replicate (n - k) 0
theorem fl_len (n : Nat) (l : List UInt8) (k : Nat) (h : k ≤ l.length) (hn : l.length ≤ n) : (fl n l k).length = n := by rw [fl, List.length_append, List.length_replicate, List.length_take]; omega
theorem fl_step (n : Nat) (l : List UInt8) (k : Nat) (h : k < l.length) (hn : l.length ≤ n) : (fl n l k).set k l[k] = fl n l (k + 1) := by
  unfold fl
  rw [List.take_succ_eq_append_getElem h, List.append_assoc, List.set_append_right _ _ (by rw [List.length_take]; omega), List.length_take, show k - min k l.length = 0 by omega]
  congr 1
  rw [show n - k = (n - (k + 1)) + 1 by omega, List.replicate_succ, List.set_cons_zero]
  rfl
theorem made_eq (n : Nat) (l : List UInt8) : madeCells #[Value.int .u8 0] n = (bv (fl n l 0)).toArray := by
  apply Array.ext'
  rw [toList_madeCells_one]
  simp [fl, bv]
set_option maxHeartbeats 2000000
set_option maxRecDepth 100000
theorem full_any (v : Value) (l : List UInt8) (n : Nat) (hn : n ≤ 16384) (hl : l.length ≤ n) (w : World) (h : Sl w v l) :
    Calls Tryz.prog 65 #[v, .int .i64 (n : Int)] w fun e w' => e = .returned (.slice (some ⟨w.heap.size, 0, none⟩) n n) ∧ B5 w' w.heap.size (padN n l) ∧ Below w.heap.size w w' ∧ w'.heap.size = w.heap.size + 1 := by
  have hmk := run_make_row' (P := Tryz.prog) 80 5 (.int .u8 0) 1 Tryz.underlying80 info5 rfl .i64 .i64 n (by omega) (by omega)
  have hmc : madeCells #[Value.int .u8 0] n = (bv (fl n l 0)).toArray := made_eq n l
  have hB0 : Below w.heap.size w (w.alloc (.cells (bv (fl n l 0)).toArray 5)) := (Below.refl _ w).alloc (Nat.le_refl _) _
  have h50 : B5 (w.alloc (.cells (bv (fl n l 0)).toArray 5)) w.heap.size (fl n l 0) := heap_alloc_new w _
  have hz0 : (w.alloc (.cells (bv (fl n l 0)).toArray 5)).heap.size = w.heap.size + 1 := by simp
  have H0 : Hid _ := hB0
  have H5 : Hid _ := h50
  have HZ : Hid _ := hz0
  have HS : Hid _ := h
  obtain ⟨p, c, rfl, hbs⟩ := h.ex
  rw [hmc] at hmk
  clear hB0 h50 hz0 hmc h
  go_enter Tryz.func65, Tryz.ntmps65
  go_wp2
  go_loopw [11] (fun i wr => ∃ k : Nat, k ≤ l.length ∧ i = .int .i64 (k : Int) ∧ B5 wr w.heap.size (fl n l k) ∧ Below w.heap.size w wr ∧ wr.heap.size = w.heap.size + 1) (fun i _ => l.length - (intOf i).toNat)
  case atStart => exact ⟨0, by omega, rfl, H5.out, H0.out, HZ.out⟩
  case round =>
    clear H5 H0 HZ
    obtain ⟨k, hk, rfl, h5, hB, hz⟩ := hrel
    by_cases hlt : k < l.length
    · have i1 : (k : Int) < l.length := by omega
      have i2 : (k : Int) < n := by omega
      have hs2 := Sl.below HS.out hB
      obtain ⟨x, rfl, hcx⟩ : ∃ x, p = some x ∧ wr.cell? (x.add k) = some (.int .u8 ((l[k]).toNat : Int)) := by
        rcases hs2 with ⟨e, e2⟩ | ⟨x, c', e, _, hc⟩
        · rw [e2] at hlt; simp at hlt
        · simp only [Value.slice.injEq] at e; exact ⟨x, e.1, hc k _ (List.getElem?_eq_getElem hlt)⟩
      have hfl := fl_len n l k hk hl
      have ho := cell_of wr w.heap.size k _ 5 _ h5 ((bv_get _ _ _).2 ⟨_, lb_of (fl n l k) k (by omega), rfl⟩)
      have hf := frozen_of wr w.heap.size k _ 5 h5
      have hnew : B5 (wr.setCell ⟨w.heap.size, k, none⟩ (.int .u8 ((l[k]).toNat : Int))) w.heap.size (fl n l (k + 1)) := by
        unfold B5; rw [← fl_step n l k hlt hl, ← bv_set]; exact setCell_heap wr _ _ _ 5 _ h5
      have hB2 : Below w.heap.size w (wr.setCell ⟨w.heap.size, k, none⟩ (.int .u8 ((l[k]).toNat : Int))) := hB.setCell (p := ⟨w.heap.size, k, none⟩) (Nat.le_refl _) _
      have hz2 : (wr.setCell ⟨w.heap.size, k, none⟩ (.int .u8 ((l[k]).toNat : Int))).heap.size = w.heap.size + 1 := by rw [setCell_size]; exact hz
      generalize (fl n l k).getD k 0 = old at *
      generalize (l[k]).toNat = y at *
      have HN : Hid _ := hnew
      have HB : Hid _ := hB2
      have HZ : Hid _ := hz2
      clear hnew hB2 hz2 hs2 hbs hfl h5 hB hz
      go_wp2
      go_roundw
      case rel =>
        first
          | exact ⟨k + 1, by omega, by go_num, HN.out, HB.out, HZ.out⟩
          | ((repeat apply Exists.intro); refine ⟨⟨k + 1, by omega, ?_, HN.out, HB.out, HZ.out⟩, rfl⟩; go_num)
      case measure => simp [intOf]; omega
    · obtain rfl : k = l.length := by omega
      have e : fl n l l.length = padN n l := by simp [fl, padN]
      rw [e] at h5
      go_wp2
      go_ret
      exact ⟨rfl, h5, hB, hz⟩
end Go.Proofs.YtgponcjjnjpfkaaGreat.M
/-! The reference: its memory, Copy. -/
namespace Go.Proofs.YtgponcjjnjpfkaaGreat.M
open Go.RowKit
open Go.Proofs
set_option linter.unusedVariables false
set_option linter.unusedSimpArgs false
def rcells (u rv sv : Value) (m : MS) (tv : Value) : List Value := [u, rv, sv, .int .u8 m.ch, .int .u8 m.pad, .int .u16 m.pitch, .int .u8 m.vol, .int .u16 m.time, .int .i64 m.cyc, tv]
/-- A memory of the reference that can be read. -/
structure RV (W : World) (b : Nat) (bs : List (Int × List UInt8)) (m : MS) (pb : Option Addr) (c : Nat) (rv sv tv : Value) : Prop where
  blk : W.heap[b]? = some (.cells (rcells (.slice pb bs.length c) rv sv m tv).toArray 130 (0, 0))
  bn : BnS W pb bs
  rs : Sl W rv m.ram
  ss : Sl W sv m.scr
  ts : Cs W tv 3 m.tones.length (tc m.tones)
  rl : m.ram.length ≤ 16384
  sl : m.scr.length ≤ 3072
  bl : bs.length * 32 ≤ room
  dl : ∀ t ∈ bs, t.2.length ≤ 16384
  tl : m.tones.length ≤ 1000000
theorem RV.below {W W' : World} {b : Nat} {bs : List (Int × List UInt8)} {m : MS} {pb : Option Addr} {c : Nat} {rv sv tv : Value} (h : RV W b bs m pb c rv sv tv) (k : Below W.heap.size W W') : RV W' b bs m pb c rv sv tv :=
  ⟨(k.block _ (lt_of h.blk)).trans h.blk, h.bn.below k, h.rs.below k, h.ss.below k, h.ts.below k, h.rl, h.sl, h.bl, h.dl, h.tl⟩
def padB (bs : List (Int × List UInt8)) : List (Int × List UInt8) := bs.map fun t => (t.1, padN 16384 t.2)
/-- The banks of the reference, each in a block of its own. -/
structure RB (W : World) (B : Nat) (u : Value) (bs : List (Int × List UInt8)) (gs : List (Nat × Nat)) : Prop where
  len : gs.length = bs.length
  row : W.ownsRow B 82 2 u bs.length (bcs bs gs)
  dat : ∀ (i : Nat) (t : Int × List UInt8) (g : Nat × Nat), bs[i]? = some t → gs[i]? = some g → B5 W g.1 t.2 ∧ g.2 = 16384 ∧ t.2.length = 16384 ∧ B ≤ g.1
  nd : (gs.map Prod.fst).Nodup
theorem RB.kept {W W' : World} {B : Nat} {v : Value} {bs : List (Int × List UInt8)} {gs : List (Nat × Nat)} (h : RB W B v bs gs) (k : ∀ i, B ≤ i → i < W.heap.size → W'.heap[i]? = W.heap[i]?) : RB W' B v bs gs :=
  ⟨h.len, own_kept h.row fun g e hg => k g (h.row.lt g e).1 hg, fun i t g h1 h2 => by obtain ⟨a, c, d, e⟩ := h.dat i t g h1 h2; exact ⟨(k _ e (lt_of a)).trans a, c, d, e⟩, h.nd⟩
theorem RB.snoc {W W1 W2 : World} {B : Nat} {v v' : Value} {bs : List (Int × List UInt8)} {gs : List (Nat × Nat)} (h : RB W B v bs gs) (hB : B ≤ W.heap.size) (t : Int × List UInt8) (g : Nat) (hb : ∀ k, B ≤ k → k < W.heap.size → W1.heap[k]? = W.heap[k]?) (hs : W.heap.size ≤ W1.heap.size)
    (hd : B5 W1 g t.2) (hl : t.2.length = 16384) (hgw : W.heap.size ≤ g) (hg : Grew W1 W2 v v') (hr : W2.ownsRow B 82 2 v' (bs.length + 1) (bcs bs gs ++ bc t (g, 16384))) :
    RB W2 B v' (bs ++ [t]) (gs ++ [(g, 16384)]) := by
  have hmem : ∀ y ∈ gs, y.1 < W.heap.size := by
    intro y hy
    obtain ⟨i, hi, e⟩ := List.mem_iff_getElem.1 hy
    have hb' : i < bs.length := by rw [← h.len]; exact hi
    exact lt_of (h.dat i bs[i] y (List.getElem?_eq_getElem hb') (by rw [List.getElem?_eq_getElem hi, e])).1
  have nv : ∀ k cur, W1.heap[k]? = some (.cells cur 5 (0, 0)) → some k ≠ v.ownBlock := by
    intro k cur e1 e2
    obtain ⟨cur2, e3⟩ := own_block h.row k e2.symm
    have := (hb k (h.row.lt k e2.symm).1 (lt_of e3)).trans e3
    rw [e1] at this
    simp at this
  have kp : ∀ {x : Nat} {l : List UInt8}, B5 W1 x l → B5 W2 x l := fun hx => (hg.block _ (lt_of hx) (nv _ _ hx)).trans hx
  refine ⟨by simp [h.len], ?_, ?_, ?_⟩
  · rw [bcs_snoc bs gs t (g, 16384) h.len, List.length_append]; exact hr
  · intro i x y h1 h2
    by_cases hi : i < bs.length
    · rw [List.getElem?_append_left hi] at h1
      rw [List.getElem?_append_left (by rw [h.len]; exact hi)] at h2
      obtain ⟨a, c, d, e⟩ := h.dat i x y h1 h2
      exact ⟨kp ((hb _ e (lt_of a)).trans a), c, d, e⟩
    · rw [List.getElem?_append_right (by omega)] at h1
      rw [List.getElem?_append_right (by rw [h.len]; omega)] at h2
      have e0 : i - bs.length = 0 := by
        have := (List.getElem?_eq_some_iff.1 h1).1; simp at this; omega
      rw [e0] at h1; rw [h.len, e0] at h2
      simp at h1 h2; subst h1 h2
      exact ⟨kp hd, rfl, hl, by simp; omega⟩
  · rw [List.map_append, List.nodup_append]
    refine ⟨h.nd, by simp, ?_⟩
    intro a ha b hb' e
    simp at hb'
    simp only [List.mem_map] at ha
    obtain ⟨y, hy, rfl⟩ := ha
    have := hmem y hy
    omega
/-- A memory of the reference, in blocks of its own. -/
structure MemR (W : World) (F : Nat → Prop) (b : Nat) (bs : List (Int × List UInt8)) (m : MS) (u : Value) (gr gc : Nat) (gs : List (Nat × Nat)) (tv : Value) : Prop where
  blk : W.heap[b]? = some (.cells (rcells u (.slice (some ⟨gr, 0, none⟩) 16384 16384) (.slice (some ⟨gc, 0, none⟩) 3072 3072) m tv).toArray 130 (0, 0))
  banks : RB W 0 u bs gs
  ram : B5 W gr m.ram
  scr : B5 W gc m.scr
  rl : m.ram.length = 16384
  sl : m.scr.length = 3072
  tones : W.ownsRow 0 53 3 tv m.tones.length (tc m.tones)
  nr : ∀ y ∈ gs, y.1 ≠ gr
  nc : ∀ y ∈ gs, y.1 ≠ gc
  rc : gr ≠ gc
  fb : F b
  fu : ∀ g, u.ownBlock = some g → F g
  fg : ∀ y ∈ gs, F y.1
  fr : F gr
  fc : F gc
  ft : ∀ g, tv.ownBlock = some g → F g
def HasR (W : World) (F : Nat → Prop) (b : Nat) (bs : List (Int × List UInt8)) (m : MS) : Prop := ∃ u gr gc gs tv, MemR W F b bs m u gr gc gs tv
/-- While the banks are copied. -/
structure CR (w wr : World) (v rv sv : Value) (m : MS) (tv : Value) (bs : List (Int × List UInt8)) (gs : List (Nat × Nat)) : Prop where
  blk : wr.heap[w.heap.size]? = some (.cells (rcells v rv sv m tv).toArray 130 (0, 0))
  banks : RB wr (w.heap.size + 1) v bs gs
  bel : Below w.heap.size w wr
  siz : w.heap.size + 1 ≤ wr.heap.size
theorem CR.step {w wr w2 w4 : World} {v v' rv sv : Value} {m : MS} {tv : Value} {bs : List (Int × List UInt8)} {gs : List (Nat × Nat)} (h : CR w wr v rv sv m tv bs gs) (t : Int × List UInt8) (g : Nat) (o1 : Obj) (o2 : Obj)
    (hb : Below (wr.alloc o1).drew.heap.size (wr.alloc o1).drew w2) (hg : g = (wr.alloc o1).drew.heap.size) (hd : B5 w2 g t.2) (hl : t.2.length = 16384)
    (hgr : Grew (w2.alloc o2) w4 v v') (hr : w4.ownsRow (w.heap.size + 1) 82 2 v' (bs.length + 1) (bcs bs gs ++ bc t (g, 16384))) :
    CR w (w4.setCell ⟨w.heap.size, 0, none⟩ v') v' rv sv m tv (bs ++ [t]) (gs ++ [(g, 16384)]) := by
  have z1 : (wr.alloc o1).drew.heap.size = wr.heap.size + 1 := by simp
  have z2 := hb.size
  have hs := h.siz
  have kp : ∀ k, k < wr.heap.size → (w2.alloc o2).heap[k]? = wr.heap[k]? := fun k hk =>
    (Below.heap_alloc w2 o2 k (by omega)).trans ((hb.block k (by omega)).trans (Below.heap_alloc wr o1 k hk))
  have nv : some w.heap.size ≠ v.ownBlock := fun e => by have := (h.banks.row.lt _ e.symm).1; omega
  have hblk4 : w4.heap[w.heap.size]? = some (.cells (rcells v rv sv m tv).toArray 130 (0, 0)) := (hgr.block _ (by simp; omega) nv).trans ((kp _ (by omega)).trans h.blk)
  have hRB := h.banks.snoc (W1 := w2.alloc o2) (W2 := w4) (v' := v') hs t g (fun k _ hk => kp k hk) (by simp; omega) ((Below.heap_alloc w2 o2 g (lt_of hd)).trans hd) hl (by omega) hgr hr
  refine ⟨?_, hRB.kept fun i hi hl => setCell_other _ _ _ _ _ (by omega), ?_, by rw [setCell_size]; have := hgr.size; simp at this; omega⟩
  · rw [setCell_heap w4 _ 0 _ 130 v' hblk4]; rfl
  · have hb4 : Below w.heap.size w w4 := by
      refine hgr.belowAll (fun x e => by have := (h.banks.row.lt x e).1; omega) (N := w.heap.size) (W0 := w) ?_ (Nat.le_refl _)
      refine ⟨(hb.os.trans rfl).trans h.bel.os, (hb.tape.trans rfl).trans h.bel.tape, (hb.output.trans rfl).trans h.bel.output, by simp; omega, fun k hk => (kp k (by omega)).trans (h.bel.block k hk)⟩
    exact hb4.setCell (p := ⟨w.heap.size, 0, none⟩) (Nat.le_refl _) _
theorem CR.start (w : World) (rv sv : Value) (m : MS) (tv : Value) : CR w (w.alloc (.cells (rcells (.slice none 0 0) rv sv m tv).toArray 130)) (.slice none 0 0) rv sv m tv [] [] :=
  ⟨heap_alloc_new w _, ⟨rfl, World.ownsRow_nil _ _ _ _, fun i t g h1 _ => by simp at h1, by simp⟩, (Below.refl _ w).alloc (Nat.le_refl _) _, by simp⟩
/-- Behind the banks: the fields one by one. -/
theorem copy_end {w w3 w4 w5 w6 w7 : World} {v rv sv : Value} {m : MS} {tv tv' : Value} {bs : List (Int × List UInt8)} {gs : List (Nat × Nat)} (h : CR w w3 v rv sv m tv bs gs)
    (hb4 : Below w3.heap.size w3 w4) (h4 : B5 w4 w3.heap.size (padN 16384 m.ram)) (z4 : w4.heap.size = w3.heap.size + 1)
    (e5 : w5 = w4.setCell ⟨w.heap.size, 1, none⟩ (.slice (some ⟨w3.heap.size, 0, none⟩) 16384 16384))
    (hb6 : Below w5.heap.size w5 w6) (h6 : B5 w6 w5.heap.size (padN 3072 m.scr)) (z6 : w6.heap.size = w5.heap.size + 1)
    (e7 : w7 = w6.setCell ⟨w.heap.size, 2, none⟩ (.slice (some ⟨w5.heap.size, 0, none⟩) 3072 3072))
    (rl : m.ram.length ≤ 16384) (sl : m.scr.length ≤ 3072) :
    (∀ w8, Below w7.heap.size w7 w8 → w8.ownsRow w7.heap.size 53 3 tv' m.tones.length (tc m.tones) →
      w8.cell? ⟨w.heap.size, 9, none⟩ = some tv ∧ w8.frozen? ⟨w.heap.size, 9, none⟩ = false ∧
      HasR (w8.setCell ⟨w.heap.size, 9, none⟩ tv') (fun k => w.heap.size ≤ k) w.heap.size bs { m with ram := padN 16384 m.ram, scr := padN 3072 m.scr } ∧ Below w.heap.size w (w8.setCell ⟨w.heap.size, 9, none⟩ tv')) := by
  intro w8 hb8 ht8
  have hs := h.siz
  have z5 : w5.heap.size = w4.heap.size := by rw [e5, setCell_size]
  have z7 : w7.heap.size = w6.heap.size := by rw [e7, setCell_size]
  have z8 := hb8.size
  have b4 : w4.heap[w.heap.size]? = some (.cells (rcells v rv sv m tv).toArray 130 (0, 0)) := (hb4.block _ (by omega)).trans h.blk
  have b5 : w5.heap[w.heap.size]? = some (.cells (rcells v (.slice (some ⟨w3.heap.size, 0, none⟩) 16384 16384) sv m tv).toArray 130 (0, 0)) := by rw [e5, setCell_heap w4 _ 1 _ 130 _ b4]; rfl
  have b6 := (hb6.block w.heap.size (by omega)).trans b5
  have b7 : w7.heap[w.heap.size]? = some (.cells (rcells v (.slice (some ⟨w3.heap.size, 0, none⟩) 16384 16384) (.slice (some ⟨w5.heap.size, 0, none⟩) 3072 3072) m tv).toArray 130 (0, 0)) := by rw [e7, setCell_heap w6 _ 2 _ 130 _ b6]; rfl
  have b8 := (hb8.block w.heap.size (by omega)).trans b7
  have b9 : (w8.setCell ⟨w.heap.size, 9, none⟩ tv').heap[w.heap.size]? = some (.cells (rcells v (.slice (some ⟨w3.heap.size, 0, none⟩) 16384 16384) (.slice (some ⟨w5.heap.size, 0, none⟩) 3072 3072) m tv').toArray 130 (0, 0)) := by rw [setCell_heap w8 _ 9 _ 130 _ b8]; rfl
  have s45 : ∀ k, k ≠ w.heap.size → w5.heap[k]? = w4.heap[k]? := fun k hk => by rw [e5]; exact setCell_other _ _ _ _ _ hk
  have s67 : ∀ k, k ≠ w.heap.size → w7.heap[k]? = w6.heap[k]? := fun k hk => by rw [e7]; exact setCell_other _ _ _ _ _ hk
  have s89 : ∀ k, k ≠ w.heap.size → (w8.setCell ⟨w.heap.size, 9, none⟩ tv').heap[k]? = w8.heap[k]? := fun k hk => setCell_other _ _ _ _ _ hk
  have kk : ∀ k, w.heap.size < k → k < w3.heap.size → (w8.setCell ⟨w.heap.size, 9, none⟩ tv').heap[k]? = w3.heap[k]? := fun k h1 h2 =>
    (s89 k (by omega)).trans ((hb8.block k (by omega)).trans ((s67 k (by omega)).trans ((hb6.block k (by omega)).trans ((s45 k (by omega)).trans (hb4.block k h2)))))
  refine ⟨cell_of w8 _ 9 _ 130 _ b8 rfl, frozen_of w8 _ 9 _ 130 b8, ⟨v, w3.heap.size, w5.heap.size, gs, tv', ?_⟩, ?_⟩
  · have hRB := h.banks.kept (W' := w8.setCell ⟨w.heap.size, 9, none⟩ tv') fun i hi hl => kk i (by omega) hl
    have hmem : ∀ y ∈ gs, w.heap.size + 1 ≤ y.1 ∧ y.1 < w3.heap.size := by
      intro y hy
      obtain ⟨i, hi, e⟩ := List.mem_iff_getElem.1 hy
      have hb' : i < bs.length := by rw [← h.banks.len]; exact hi
      have hd := h.banks.dat i bs[i] y (List.getElem?_eq_getElem hb') (by rw [List.getElem?_eq_getElem hi, e])
      exact ⟨hd.2.2.2, lt_of hd.1⟩
    refine ⟨b9, ⟨hRB.len, own_mono hRB.row (Nat.zero_le _), fun i t g a c => by obtain ⟨x1, x2, x3, _⟩ := hRB.dat i t g a c; exact ⟨x1, x2, x3, Nat.zero_le _⟩, hRB.nd⟩, ?_, ?_, padN_len _ _ rl, padN_len _ _ sl, ?_, ?_, ?_, by omega, Nat.le_refl _, ?_, ?_, Nat.le_of_lt hs, show w.heap.size ≤ w5.heap.size by omega, ?_⟩
    · exact (s89 _ (by omega)).trans ((hb8.block _ (by omega)).trans ((s67 _ (by omega)).trans ((hb6.block _ (by omega)).trans ((s45 _ (by omega)).trans h4))))
    · exact (s89 _ (by omega)).trans ((hb8.block _ (by omega)).trans ((s67 _ (by omega)).trans h6))
    · exact own_mono (own_kept ht8 fun g e _ => s89 g (by have := (ht8.lt g e).1; omega)) (Nat.zero_le _)
    · intro y hy; have := hmem y hy; omega
    · intro y hy; have := hmem y hy; omega
    · intro g e; have := (h.banks.row.lt g e).1; show w.heap.size ≤ g; omega
    · intro y hy; have := hmem y hy; show w.heap.size ≤ y.1; omega
    · intro g e; have := (ht8.lt g e).1; show w.heap.size ≤ g; omega
  · have hb3 := h.bel
    have t4 := hb3.trans (hb4.mono (by omega))
    have t5 : Below w.heap.size w w5 := by rw [e5]; exact t4.setCell (p := ⟨w.heap.size, 1, none⟩) (Nat.le_refl _) _
    have t6 := t5.trans (hb6.mono (by omega))
    have t7 : Below w.heap.size w w7 := by rw [e7]; exact t6.setCell (p := ⟨w.heap.size, 2, none⟩) (Nat.le_refl _) _
    have t8 := t7.trans (hb8.mono (by omega))
    exact t8.setCell (p := ⟨w.heap.size, 9, none⟩) (Nat.le_refl _) _
theorem padB_snoc (bs : List (Int × List UInt8)) (t : Int × List UInt8) : padB (bs ++ [t]) = padB bs ++ [(t.1, padN 16384 t.2)] := by simp [padB]
end Go.Proofs.YtgponcjjnjpfkaaGreat.M
/-! Image. -/
namespace Go.Proofs.YtgponcjjnjpfkaaGreat.M
open Go.RowKit
open Go.Proofs
set_option linter.unusedVariables false
set_option linter.unusedSimpArgs false
/-- What an image holds, in new memory: nothing of it shares a block. -/
structure ImO (W : World) (B : Nat) (u rv sv : Value) (bs : List (Int × List UInt8)) (ram scr : List UInt8) (gs : List (Nat × Nat)) (N1 N2 : Nat) : Prop where
  banks : OI W B u bs gs
  ram : Row W N1 rv ram
  scr : Row W N2 sv scr
  b1 : B ≤ N1
  g1 : ∀ y ∈ gs, y.1 < N1
  o1 : ∀ g, u.ownBlock = some g → g < N1
  r1 : ∀ g, rv.ownBlock = some g → g < N2
  n12 : N1 ≤ N2
theorem OI.mem_lt {W : World} {B : Nat} {v : Value} {bs : List (Int × List UInt8)} {gs : List (Nat × Nat)} (h : OI W B v bs gs) (y : Nat × Nat) (hy : y ∈ gs) : y.1 < W.heap.size := by
  obtain ⟨i, hi, e⟩ := List.mem_iff_getElem.1 hy
  have hb' : i < bs.length := by rw [← h.len]; exact hi
  exact ((h.dat i bs[i] y (List.getElem?_eq_getElem hb') (by rw [List.getElem?_eq_getElem hi, e])).lt y.1 rfl).2
theorem cell_far (W : World) (N i : Nat) (v : Value) (b j : Nat) (h : b ≠ N) : (W.setCell ⟨N, i, none⟩ v).cell? ⟨b, j, none⟩ = W.cell? ⟨b, j, none⟩ :=
  World.cell?_of_block (w := W) (setCell_other W N i b v h)
theorem own_form {w : World} {B : Nat} {e : TypeId} {size : Nat} {v : Value} {n : Nat} {xs : List Value} (h : w.ownsRow B e size v n xs) : ∃ p cap, v = .slice p n cap := by
  rcases h.2 with ⟨h, e⟩ | ⟨g, cap, cur, h1, _⟩
  · exact ⟨none, 0, by rw [h, e]⟩
  · exact ⟨_, cap, h1⟩
def imgC (u rv sv : Value) (m : MS) : List Value := [u, rv, sv, .int .u8 m.ch, .int .u8 m.pad, .int .u16 m.pitch, .int .u8 m.vol, .int .u16 m.time]
/-- The eight cells of an image, stored one by one. -/
def st8 (W : World) (N : Nat) (u rv sv : Value) (m : MS) : World :=
  (((((((W.setCell ⟨N, 0, none⟩ u).setCell ⟨N, 1, none⟩ rv).setCell ⟨N, 2, none⟩ sv).setCell ⟨N, 3, none⟩ (.int .u8 m.ch)).setCell ⟨N, 4, none⟩ (.int .u8 m.pad)).setCell ⟨N, 5, none⟩ (.int .u16 m.pitch)).setCell ⟨N, 6, none⟩ (.int .u8 m.vol)).setCell ⟨N, 7, none⟩ (.int .u16 m.time)
theorem st8_heap (W : World) (N : Nat) (u rv sv : Value) (m : MS) (c : List Value) (t : TypeId) (hc : c.length = 8) (h : W.heap[N]? = some (.cells c.toArray t (0, 0))) : (st8 W N u rv sv m).heap[N]? = some (.cells (imgC u rv sv m).toArray t (0, 0)) := by
  unfold st8
  match c, hc with
  | [a0, a1, a2, a3, a4, a5, a6, a7], _ =>
    have h1 := setCell_heap _ _ 0 _ _ u h
    have h2 := setCell_heap _ _ 1 _ _ rv h1
    have h3 := setCell_heap _ _ 2 _ _ sv h2
    have h4 := setCell_heap _ _ 3 _ _ (.int .u8 m.ch) h3
    have h5 := setCell_heap _ _ 4 _ _ (.int .u8 m.pad) h4
    have h6 := setCell_heap _ _ 5 _ _ (.int .u16 m.pitch) h5
    have h7 := setCell_heap _ _ 6 _ _ (.int .u8 m.vol) h6
    have h8 := setCell_heap _ _ 7 _ _ (.int .u16 m.time) h7
    rw [h8]; rfl
theorem st8_other (W : World) (N k : Nat) (u rv sv : Value) (m : MS) (h : k ≠ N) : (st8 W N u rv sv m).heap[k]? = W.heap[k]? := by
  unfold st8
  simp only [setCell_other _ N _ k _ h]
theorem st8_size (W : World) (N : Nat) (u rv sv : Value) (m : MS) : (st8 W N u rv sv m).heap.size = W.heap.size := by
  unfold st8; simp only [setCell_size]
theorem st8_below (W : World) (N : Nat) (u rv sv : Value) (m : MS) {B : Nat} {W0 : World} (h : Below B W0 W) (hN : B ≤ N) : Below B W0 (st8 W N u rv sv m) :=
  have e1 : ∀ (W : World) a v, (W.setCell a v).os = W.os := fun _ _ _ => rfl
  have e2 : ∀ (W : World) a v, (W.setCell a v).tape = W.tape := fun _ _ _ => rfl
  have e3 : ∀ (W : World) a v, (W.setCell a v).output = W.output := fun _ _ _ => rfl
  ⟨by simp only [st8, e1]; exact h.os, by simp only [st8, e2]; exact h.tape, by simp only [st8, e3]; exact h.output, by rw [st8_size]; exact h.size, fun k hk => (st8_other W N k u rv sv m (by omega)).trans (h.block k hk)⟩
theorem image_end (w w1 w2 w3 w4 : World) (m : MS) (p2 : Option Addr) (cp2 g3 cp3 g4 cp4 : Nat) (gs : List (Nat × Nat)) (hb1 : Below w.heap.size w w1) (hz1 : w1.heap.size = w.heap.size + 1)
    (hb2 : Below w1.drew.heap.size w1.drew w2) (hb3 : Below w2.heap.size w2 w3) (hb4 : Below w3.heap.size w3 w4) (hO2 : OI w2 w1.drew.heap.size (.slice p2 (inO m 16).length cp2) (inO m 16) gs)
    (hO3 : Row w3 w2.heap.size (.slice (some ⟨g3, 0, none⟩) m.ram.length cp3) m.ram) (hO4 : Row w4 w3.heap.size (.slice (some ⟨g4, 0, none⟩) m.scr.length cp4) m.scr)
    (hr1 : w1.heap[w.heap.size]? = some (.cells [.slice none 0 0, .slice none 0 0, .slice none 0 0, .int .u8 0, .int .u8 0, .int .u16 0, .int .u8 0, .int .u16 0].toArray 123 (0, 0))) :
    (st8 w4 w.heap.size (.slice p2 (inO m 16).length cp2) (.slice (some ⟨g3, 0, none⟩) m.ram.length cp3) (.slice (some ⟨g4, 0, none⟩) m.scr.length cp4) m).heap[w.heap.size]? = some (.cells (imgC (.slice p2 (inO m 16).length cp2) (.slice (some ⟨g3, 0, none⟩) m.ram.length cp3) (.slice (some ⟨g4, 0, none⟩) m.scr.length cp4) m).toArray 123 (0, 0)) ∧
    ImO (st8 w4 w.heap.size (.slice p2 (inO m 16).length cp2) (.slice (some ⟨g3, 0, none⟩) m.ram.length cp3) (.slice (some ⟨g4, 0, none⟩) m.scr.length cp4) m) w.heap.size (.slice p2 (inO m 16).length cp2) (.slice (some ⟨g3, 0, none⟩) m.ram.length cp3) (.slice (some ⟨g4, 0, none⟩) m.scr.length cp4) (inO m 16) m.ram m.scr gs w2.heap.size w3.heap.size ∧
    Below w.heap.size w (st8 w4 w.heap.size (.slice p2 (inO m 16).length cp2) (.slice (some ⟨g3, 0, none⟩) m.ram.length cp3) (.slice (some ⟨g4, 0, none⟩) m.scr.length cp4) m) := by
  have z1 : w1.drew.heap.size = w.heap.size + 1 := hz1
  have z2 := hb2.size
  have z3 := hb3.size
  have z4 := hb4.size
  have hr4 : w4.heap[w.heap.size]? = some (.cells [.slice none 0 0, .slice none 0 0, .slice none 0 0, .int .u8 0, .int .u8 0, .int .u16 0, .int .u8 0, .int .u16 0].toArray 123 (0, 0)) :=
    (hb4.block _ (by omega)).trans ((hb3.block _ (by omega)).trans ((hb2.block _ (by omega)).trans hr1))
  generalize hu : Value.slice p2 (inO m 16).length cp2 = u at *
  generalize hrv : Value.slice (some ⟨g3, 0, none⟩) m.ram.length cp3 = rv at *
  generalize hsv : Value.slice (some ⟨g4, 0, none⟩) m.scr.length cp4 = sv at *
  have far : ∀ k, w.heap.size < k → (st8 w4 w.heap.size u rv sv m).heap[k]? = w4.heap[k]? := fun k hk => st8_other w4 w.heap.size k u rv sv m (by omega)
  have hB4 : Below w.heap.size w w4 := ((hb1.trans (by exact ⟨hb2.os, hb2.tape, hb2.output, by rw [z1] at z2; omega, fun k hk => hb2.block k (by omega)⟩)).trans (hb3.mono (by omega))).trans (hb4.mono (by omega))
  refine ⟨st8_heap w4 _ u rv sv m _ 123 rfl hr4, ⟨?_, ?_, ?_, by omega, fun y hy => hO2.mem_lt y hy, fun g e => (hO2.row.lt g e).2, fun g e => (hO3.lt g e).2, z3⟩, st8_below w4 _ u rv sv m hB4 (Nat.le_refl _)⟩
  · have := hO2.kept (W' := st8 w4 w.heap.size u rv sv m) fun i hi hl => (far i (by omega)).trans ((hb4.block i (by omega)).trans (hb3.block i hl))
    exact ⟨this.len, own_mono this.row (by omega), fun i t g a c => Row.mono (this.dat i t g a c) (by omega), this.nd⟩
  · exact hO3.kept fun g e hg => (far g (by have := (hO3.lt g e).1; omega)).trans (hb4.block g hg)
  · exact hO4.kept fun g e hg => far g (by have := (hO4.lt g e).1; omega)
end Go.Proofs.YtgponcjjnjpfkaaGreat.M
/-! What a write changes, and what it does not. -/
namespace Go.Proofs.YtgponcjjnjpfkaaGreat.M
open Go.Proofs
set_option linter.unusedVariables false
set_option linter.unusedSimpArgs false
theorem lb_set (l : List UInt8) (i j : Nat) (x : UInt8) (h : i < l.length) : lb (l.set i x) j = if i = j then bt x else lb l j := by
  unfold lb bt
  simp only [List.getD_eq_getElem?_getD, List.getElem?_set]
  by_cases e : i = j
  · subst e; simp [h]
  · simp [e]
theorem st_pad (m : MS) (z : Int) (x : UInt8) : (st m z x).pad = m.pad := by
  unfold st stp; repeat' split
  all_goals rfl
theorem st_time (m : MS) (z : Int) (x : UInt8) : (st m z x).time = m.time := by
  unfold st stp; repeat' split
  all_goals rfl
theorem st_ch (m : MS) (z : Int) (x : UInt8) (h : z ≠ 65280) : (st m z x).ch = m.ch := by
  unfold st stp; repeat' split
  all_goals first | rfl | (exfalso; omega)
theorem st_low_tones (m : MS) (z : Int) (x : UInt8) (h : z < 65280) : (st m z x).tones = m.tones := by
  unfold st stp; repeat' split
  all_goals first | rfl | (exfalso; omega)
theorem st_banks (m : MS) (z : Int) (x : UInt8) (n : Nat) (l : List UInt8) (h : m.banks n = some l) : ∃ l', (st m z x).banks n = some l' := by
  unfold st stp
  split
  · exact ⟨l, h⟩
  split
  · split
    · exact ⟨l, h⟩
    · simp only [upd]; split
      · exact ⟨_, rfl⟩
      · exact ⟨l, h⟩
  repeat' split
  all_goals exact ⟨l, h⟩
theorem ld_low (m : MS) (z : Int) (h : z < 16384) : ld m z = 0 := by unfold ld; rw [if_pos h]
theorem ld_same (m : MS) (hw : Wf m) (z : Int) (x : UInt8) (h0 : 16384 ≤ z) (h1 : z < 52224) (hb : z < 32768 → ∃ l, m.banks m.ch.toNat = some l) : ld (st m z x) z = bt x := by
  have a1 : ¬ z < 16384 := by omega
  by_cases a2 : z < 32768
  · obtain ⟨l, hl⟩ := hb a2
    have hll := (hw.bk _ _ hl).2
    simp only [st, ld, a1, a2, if_true, if_false, hl, upd]
    rw [lb_set _ _ _ _ (by omega), if_pos rfl]
  by_cases a3 : z < 49152
  · simp only [st, ld, a1, a2, a3, if_true, if_false]
    rw [lb_set _ _ _ _ (by rw [hw.ram]; omega), if_pos rfl]
  · simp only [st, ld, a1, a2, a3, h1, if_true, if_false]
    rw [lb_set _ _ _ _ (by rw [hw.scr]; omega), if_pos rfl]
theorem ld_stp (m : MS) (z o : Int) (x : UInt8) (ho : o < 65280) (hn : ¬ (z = 65280 ∧ 16384 ≤ o ∧ o < 32768)) : ld (stp m z x) o = ld m o := by
  unfold stp
  by_cases c0 : z = 65280
  · rw [if_pos c0]
    unfold ld
    by_cases a1 : o < 16384
    · simp only [a1, if_true]
    by_cases a2 : o < 32768
    · exact absurd ⟨c0, by omega, a2⟩ hn
    simp only [a1, a2, if_false]
    split
    · rfl
    split
    · rfl
    rw [pt_low _ o ho, pt_low _ o ho]
  rw [if_neg c0]
  have hp : ∀ m' : MS, m'.ram = m.ram → m'.scr = m.scr → m'.ch = m.ch → m'.banks = m.banks → ld m' o = ld m o := by
    intro m' e1 e2 e3 e4
    unfold ld
    rw [e1, e2, e3, e4, pt_low m' o ho, pt_low m o ho]
  repeat' split
  all_goals first | exact hp _ rfl rfl rfl rfl | rfl
theorem ld_other (m : MS) (hw : Wf m) (z o : Int) (x : UInt8) (h0 : 0 ≤ z) (ho0 : 0 ≤ o) (ho : o < 65280) (hne : o ≠ z) (hn : ¬ (z = 65280 ∧ 16384 ≤ o ∧ o < 32768)) : ld (st m z x) o = ld m o := by
  by_cases a1 : z < 16384
  · simp only [st, a1, if_true]
  by_cases a2 : z < 32768
  · simp only [st, a1, a2, if_true, if_false]
    cases hb : m.banks m.ch.toNat with
    | none => rfl
    | some l =>
      have hll := (hw.bk _ _ hb).2
      simp only [ld, upd, if_true, hb]
      by_cases b1 : o < 16384
      · simp only [b1, if_true]
      by_cases b2 : o < 32768
      · simp only [b1, b2, if_true, if_false]
        rw [lb_set _ _ _ _ (by omega), if_neg (by omega)]
      simp only [b1, b2, if_false]
      rfl
  by_cases a3 : z < 49152
  · simp only [st, a1, a2, a3, if_true, if_false]
    unfold ld
    by_cases b1 : o < 16384
    · simp only [b1, if_true]
    by_cases b2 : o < 32768
    · simp only [b1, b2, if_true, if_false]; try rfl
    by_cases b3 : o < 49152
    · simp only [b1, b2, b3, if_true, if_false]
      rw [lb_set _ _ _ _ (by rw [hw.ram]; omega), if_neg (by omega)]
    simp only [b1, b2, b3, if_false]
    rfl
  by_cases a4 : z < 52224
  · simp only [st, a1, a2, a3, a4, if_true, if_false]
    unfold ld
    by_cases b1 : o < 16384
    · simp only [b1, if_true]
    by_cases b2 : o < 32768
    · simp only [b1, b2, if_true, if_false]; try rfl
    by_cases b3 : o < 49152
    · simp only [b1, b2, b3, if_true, if_false]; try rfl
    by_cases b4 : o < 52224
    · simp only [b1, b2, b3, b4, if_true, if_false]
      rw [lb_set _ _ _ _ (by rw [hw.scr]; omega), if_neg (by omega)]
    simp only [b1, b2, b3, b4, if_false]
    rfl
  simp only [st, a1, a2, a3, a4, if_false]
  exact ld_stp m z o x ho hn
/-- What holds of the memory all the while. -/
structure Inv (some_ : Prop) (m : MS) : Prop where
  tones : m.tones = []
  pad : m.pad = 77
  time : m.time = 1
  bank : some_ → ∃ l, m.banks m.ch.toNat = some l
theorem Inv.st {s : Prop} {m : MS} (h : Inv s m) (z : Int) (x : UInt8) (hz : z < 65280) : Inv s (st m z x) := by
  refine ⟨(st_low_tones m z x hz).trans h.tones, (st_pad m z x).trans h.pad, (st_time m z x).trans h.time, fun hs => ?_⟩
  obtain ⟨l, hl⟩ := h.bank hs
  rw [st_ch m z x (by omega)]
  exact st_banks m z x _ l hl
theorem ld_pad (m : MS) : ld m 65282 = m.pad := by simp [ld, pt]
theorem ld_time (m : MS) : ld m 65288 = m.time % 256 := by simp [ld, pt]
end Go.Proofs.YtgponcjjnjpfkaaGreat.M
/-! The reference's memory: bank, Load. -/
namespace Go.Proofs.YtgponcjjnjpfkaaGreat.M
open Go.RowKit
open Go.Proofs
set_option linter.unusedVariables false
set_option linter.unusedSimpArgs false
theorem RB.mem {W : World} {B : Nat} {v : Value} {bs : List (Int × List UInt8)} {gs : List (Nat × Nat)} (h : RB W B v bs gs) (y : Nat × Nat) (hy : y ∈ gs) : ∃ l, B5 W y.1 l ∧ B ≤ y.1 := by
  obtain ⟨i, hi, e⟩ := List.mem_iff_getElem.1 hy
  have hb' : i < bs.length := by rw [← h.len]; exact hi
  have := h.dat i bs[i] y (List.getElem?_eq_getElem hb') (by rw [List.getElem?_eq_getElem hi, e])
  exact ⟨_, this.1, this.2.2.2⟩
theorem MemR.kept {W W' : World} {F : Nat → Prop} {b : Nat} {bs : List (Int × List UInt8)} {m : MS} {u : Value} {gr gc : Nat} {gs : List (Nat × Nat)} {tv : Value} (h : MemR W F b bs m u gr gc gs tv) (k : ∀ i, i < W.heap.size → F i → W'.heap[i]? = W.heap[i]?) : MemR W' F b bs m u gr gc gs tv :=
  { h with
    blk := (k _ (lt_of h.blk) h.fb).trans h.blk
    banks := ⟨h.banks.len, own_kept h.banks.row fun g e hg => k g hg (h.fu g e), fun i t g a c => by
      obtain ⟨x1, x2, x3, x4⟩ := h.banks.dat i t g a c
      exact ⟨(k _ (lt_of x1) (h.fg g (List.mem_of_getElem? c))).trans x1, x2, x3, x4⟩, h.banks.nd⟩
    ram := (k _ (lt_of h.ram) h.fr).trans h.ram
    scr := (k _ (lt_of h.scr) h.fc).trans h.scr
    tones := own_kept h.tones fun g e hg => k g hg (h.ft g e) }
theorem MemR.mono {W : World} {F G : Nat → Prop} {b : Nat} {bs : List (Int × List UInt8)} {m : MS} {u : Value} {gr gc : Nat} {gs : List (Nat × Nat)} {tv : Value} (h : MemR W F b bs m u gr gc gs tv) (k : ∀ i, i < W.heap.size → F i → G i) : MemR W G b bs m u gr gc gs tv :=
  { h with
    fb := k _ (lt_of h.blk) h.fb
    fu := fun g e => k _ (h.banks.row.lt g e).2 (h.fu g e)
    fg := fun y hy => by obtain ⟨l, e, _⟩ := h.banks.mem y hy; exact k _ (lt_of e) (h.fg y hy)
    fr := k _ (lt_of h.ram) h.fr
    fc := k _ (lt_of h.scr) h.fc
    ft := fun g e => k _ (h.tones.lt g e).2 (h.ft g e) }
/-- The reference's memory and the state that it stands for. -/
def IsR (W : World) (F : Nat → Prop) (b : Nat) (m : MS) : Prop := Wf m ∧ HasR W F b (inO m 16) m
theorem IsR.kept {W W' : World} {F : Nat → Prop} {b : Nat} {m : MS} (h : IsR W F b m) (k : ∀ i, i < W.heap.size → F i → W'.heap[i]? = W.heap[i]?) : IsR W' F b m := by
  obtain ⟨hw, u, gr, gc, gs, tv, h⟩ := h; exact ⟨hw, u, gr, gc, gs, tv, h.kept k⟩
theorem IsR.mono {W : World} {F G : Nat → Prop} {b : Nat} {m : MS} (h : IsR W F b m) (k : ∀ i, i < W.heap.size → F i → G i) : IsR W G b m := by
  obtain ⟨hw, u, gr, gc, gs, tv, h⟩ := h; exact ⟨hw, u, gr, gc, gs, tv, h.mono k⟩
theorem IsR.below {W W' : World} {F : Nat → Prop} {b : Nat} {m : MS} (h : IsR W F b m) (k : Below W.heap.size W W') : IsR W' F b m := h.kept fun i hi _ => k.block i hi
/-- Where a bank stands in the list. -/
theorem inO_mem (m : MS) (n : Nat) (l : List UInt8) : ∀ k : Nat, (((n : Int), l) ∈ inO m k ↔ n < k ∧ m.banks n = some l)
  | 0 => by simp [inO]
  | k + 1 => by
    have ih := inO_mem m n l k
    cases hb : m.banks k with
    | none =>
      rw [inO_none m k hb, ih]
      constructor
      · rintro ⟨a, c⟩; exact ⟨by omega, c⟩
      · rintro ⟨a, c⟩
        refine ⟨?_, c⟩
        by_cases e : n = k
        · subst e; rw [hb] at c; cases c
        · omega
    | some x =>
      rw [inO_some m k x hb, List.mem_append, ih]
      constructor
      · rintro (⟨a, c⟩ | h)
        · exact ⟨by omega, c⟩
        · simp at h; obtain ⟨e, rfl⟩ := h; have : n = k := by omega
          subst this; exact ⟨by omega, hb⟩
      · rintro ⟨a, c⟩
        by_cases e : n = k
        · subst e; rw [hb] at c; cases c; right; simp
        · left; exact ⟨by omega, c⟩
theorem inO_fst (m : MS) (k : Nat) (t : Int × List UInt8) (h : t ∈ inO m k) : ∃ n : Nat, t.1 = (n : Int) := by
  simp only [inO, List.mem_filterMap] at h
  obtain ⟨n, _, e⟩ := h
  cases hb : m.banks n with
  | none => rw [hb] at e; simp at e
  | some x => rw [hb] at e; simp at e; exact ⟨n, by rw [← e]⟩
set_option maxHeartbeats 2000000
set_option maxRecDepth 100000
end Go.Proofs.YtgponcjjnjpfkaaGreat.M
/-! The reference's memory: what a write does. -/
namespace Go.Proofs.YtgponcjjnjpfkaaGreat.M
open Go.RowKit
open Go.Proofs
set_option linter.unusedVariables false
set_option linter.unusedSimpArgs false
section
variable {W : World} {F : Nat → Prop} {b : Nat} {bs : List (Int × List UInt8)} {m : MS} {u : Value} {gr gc : Nat} {gs : List (Nat × Nat)} {tv : Value}
theorem MemR.nu (h : MemR W F b bs m u gr gc gs tv) (g : Nat) (e : u.ownBlock = some g) : g ≠ b := by
  rintro rfl; obtain ⟨cur, e2⟩ := own_block h.banks.row g e; have := h.blk; rw [e2] at this; simp at this
theorem MemR.nt (h : MemR W F b bs m u gr gc gs tv) (g : Nat) (e : tv.ownBlock = some g) : g ≠ b := by
  rintro rfl; obtain ⟨cur, e2⟩ := own_block h.tones g e; have := h.blk; rw [e2] at this; simp at this
theorem MemR.n5 (h : MemR W F b bs m u gr gc gs tv) (g : Nat) (l : List UInt8) (e : B5 W g l) : g ≠ b ∧ u.ownBlock ≠ some g ∧ tv.ownBlock ≠ some g := by
  refine ⟨?_, ?_, ?_⟩
  · rintro rfl; have := h.blk; rw [e] at this; simp at this
  · intro c; obtain ⟨cur, e2⟩ := own_block h.banks.row g c; unfold B5 at e; rw [e2] at e; simp at e
  · intro c; obtain ⟨cur, e2⟩ := own_block h.tones g c; unfold B5 at e; rw [e2] at e; simp at e
/-- A register is written. -/
theorem MemR.reg (h : MemR W F b bs m u gr gc gs tv) (i : Nat) (v : Value) (m' : MS) (he : ∀ R S : Value, (rcells u R S m tv).set i v = rcells u R S m' tv) (e1 : m'.ram = m.ram) (e2 : m'.scr = m.scr) (e4 : m'.tones = m.tones) : MemR (W.setCell ⟨b, i, none⟩ v) F b bs m' u gr gc gs tv := by
  have k : ∀ j, j ≠ b → (W.setCell ⟨b, i, none⟩ v).heap[j]? = W.heap[j]? := fun j hj => setCell_other _ _ _ _ _ hj
  refine ⟨by rw [setCell_heap W b i _ 130 v h.blk, he], ⟨h.banks.len, own_kept h.banks.row fun g e _ => k g (h.nu g e), fun j t g a c => ?_, h.banks.nd⟩, ?_, ?_, by rw [e1]; exact h.rl, by rw [e2]; exact h.sl, by rw [e4]; exact own_kept h.tones fun g e _ => k g (h.nt g e), h.nr, h.nc, h.rc, h.fb, h.fu, h.fg, h.fr, h.fc, h.ft⟩
  · obtain ⟨x1, x2, x3, x4⟩ := h.banks.dat j t g a c
    exact ⟨(k _ (h.n5 _ _ x1).1).trans x1, x2, x3, x4⟩
  · rw [e1]; exact (k _ (h.n5 _ _ h.ram).1).trans h.ram
  · rw [e2]; exact (k _ (h.n5 _ _ h.scr).1).trans h.scr
theorem MemR.ramS (h : MemR W F b bs m u gr gc gs tv) (i : Nat) (x : UInt8) : MemR (W.setCell ⟨gr, i, none⟩ (.int .u8 (bt x))) F b bs { m with ram := m.ram.set i x } u gr gc gs tv := by
  have k : ∀ j, j ≠ gr → (W.setCell ⟨gr, i, none⟩ (.int .u8 (bt x))).heap[j]? = W.heap[j]? := fun j hj => setCell_other _ _ _ _ _ hj
  obtain ⟨n1, n2, n3⟩ := h.n5 _ _ h.ram
  refine ⟨(k _ n1.symm).trans h.blk, ⟨h.banks.len, own_kept h.banks.row fun g e _ => k g (fun c => n2 (c ▸ e)), fun j t g a c => ?_, h.banks.nd⟩, ?_, (k _ h.rc.symm).trans h.scr, by simp [h.rl], h.sl, own_kept h.tones fun g e _ => k g (fun c => n3 (c ▸ e)), h.nr, h.nc, h.rc, h.fb, h.fu, h.fg, h.fr, h.fc, h.ft⟩
  · obtain ⟨x1, x2, x3, x4⟩ := h.banks.dat j t g a c
    exact ⟨(k _ (h.nr g (List.mem_of_getElem? c))).trans x1, x2, x3, x4⟩
  · unfold B5; rw [← bv_set]; exact setCell_heap W _ _ _ 5 _ h.ram
theorem MemR.scrS (h : MemR W F b bs m u gr gc gs tv) (i : Nat) (x : UInt8) : MemR (W.setCell ⟨gc, i, none⟩ (.int .u8 (bt x))) F b bs { m with scr := m.scr.set i x } u gr gc gs tv := by
  have k : ∀ j, j ≠ gc → (W.setCell ⟨gc, i, none⟩ (.int .u8 (bt x))).heap[j]? = W.heap[j]? := fun j hj => setCell_other _ _ _ _ _ hj
  obtain ⟨n1, n2, n3⟩ := h.n5 _ _ h.scr
  refine ⟨(k _ n1.symm).trans h.blk, ⟨h.banks.len, own_kept h.banks.row fun g e _ => k g (fun c => n2 (c ▸ e)), fun j t g a c => ?_, h.banks.nd⟩, (k _ h.rc).trans h.ram, ?_, h.rl, by simp [h.sl], own_kept h.tones fun g e _ => k g (fun c => n3 (c ▸ e)), h.nr, h.nc, h.rc, h.fb, h.fu, h.fg, h.fr, h.fc, h.ft⟩
  · obtain ⟨x1, x2, x3, x4⟩ := h.banks.dat j t g a c
    exact ⟨(k _ (h.nc g (List.mem_of_getElem? c))).trans x1, x2, x3, x4⟩
  · unfold B5; rw [← bv_set]; exact setCell_heap W _ _ _ 5 _ h.scr
/-- One bank's bytes are others. -/
def setB (bs : List (Int × List UInt8)) (n : Int) (l : List UInt8) : List (Int × List UInt8) := bs.map fun t => if t.1 = n then (t.1, l) else t
theorem bcs_setB (n : Int) (l : List UInt8) : ∀ (bs : List (Int × List UInt8)) (gs : List (Nat × Nat)), (∀ t ∈ bs, t.1 = n → t.2.length = l.length) → bcs (setB bs n l) gs = bcs bs gs
  | [], gs, _ => by cases gs <;> rfl
  | t :: bs, [], _ => rfl
  | t :: bs, g :: gs, h => by
    have ih := bcs_setB n l bs gs fun x hx => h x (List.mem_cons_of_mem _ hx)
    simp only [setB, List.map_cons, bcs] at ih ⊢
    rw [ih]
    congr 1
    split
    · next c => simp only [bc, h t (by simp) c]
    · rfl
theorem MemR.bankS (h : MemR W F b bs m u gr gc gs tv) (hd : (bs.map Prod.fst).Nodup) (k : Nat) (t : Int × List UInt8) (g : Nat × Nat) (ht : bs[k]? = some t) (hg : gs[k]? = some g) (i : Nat) (x : UInt8) (m' : MS) (e1 : m'.ram = m.ram) (e2 : m'.scr = m.scr) (e4 : m'.tones = m.tones) (e5 : ∀ R S, rcells u R S m' tv = rcells u R S m tv) :
    MemR (W.setCell ⟨g.1, i, none⟩ (.int .u8 (bt x))) F b (setB bs t.1 (t.2.set i x)) m' u gr gc gs tv := by
  have kk : ∀ j, j ≠ g.1 → (W.setCell ⟨g.1, i, none⟩ (.int .u8 (bt x))).heap[j]? = W.heap[j]? := fun j hj => setCell_other _ _ _ _ _ hj
  obtain ⟨x1, x2, x3, x4⟩ := h.banks.dat k t g ht hg
  obtain ⟨n1, n2, n3⟩ := h.n5 _ _ x1
  have hgm := List.mem_of_getElem? hg
  have hlen : (setB bs t.1 (t.2.set i x)).length = bs.length := by simp [setB]
  have hsame : ∀ y ∈ bs, y.1 = t.1 → y.2.length = (t.2.set i x).length := by
    intro y hy e
    obtain ⟨j, hj, ej⟩ := List.mem_iff_getElem.1 hy
    have hjg : j < gs.length := by rw [h.banks.len]; exact hj
    have := (h.banks.dat j y gs[j] (by rw [List.getElem?_eq_getElem hj, ej]) (List.getElem?_eq_getElem hjg)).2.2.1
    simp [x3, this]
  refine ⟨by rw [e5]; exact (kk _ n1.symm).trans h.blk, ⟨by rw [hlen]; exact h.banks.len, ?_, fun j y z a c => ?_, h.banks.nd⟩, by rw [e1]; exact (kk _ (h.nr g hgm).symm).trans h.ram, by rw [e2]; exact (kk _ (h.nc g hgm).symm).trans h.scr, by rw [e1]; exact h.rl, by rw [e2]; exact h.sl, by rw [e4]; exact own_kept h.tones fun q e _ => kk q (fun c => n3 (c ▸ e)), h.nr, h.nc, h.rc, h.fb, h.fu, h.fg, h.fr, h.fc, h.ft⟩
  · rw [hlen, bcs_setB _ _ bs gs hsame]; exact own_kept h.banks.row fun q e _ => kk q (fun c => n2 (c ▸ e))
  · simp only [setB, List.getElem?_map, Option.map_eq_some_iff] at a
    obtain ⟨y0, a0, ay⟩ := a
    obtain ⟨w1, w2, w3, w4⟩ := h.banks.dat j y0 z a0 c
    by_cases ej : j = k
    · subst ej
      rw [ht] at a0; cases a0
      rw [hg] at c; cases c
      rw [if_pos rfl] at ay
      subst ay
      refine ⟨?_, x2, by simp [x3], x4⟩
      unfold B5; rw [← bv_set]; exact setCell_heap W _ _ _ 5 _ x1
    · have hne : y0.1 ≠ t.1 := by
        intro e
        have a1 : (bs.map Prod.fst)[j]? = some t.1 := by rw [List.getElem?_map, a0]; simp [e]
        have a2 : (bs.map Prod.fst)[k]? = some t.1 := by rw [List.getElem?_map, ht]; rfl
        obtain ⟨l1, q1⟩ := List.getElem?_eq_some_iff.1 a1
        obtain ⟨l2, q2⟩ := List.getElem?_eq_some_iff.1 a2
        exact ej ((List.getElem_inj (h₀ := l1) (h₁ := l2) hd).1 (by rw [q1, q2]))
      rw [if_neg hne] at ay
      subst ay
      have hzg : z.1 ≠ g.1 := by
        intro e
        have a1 : (gs.map Prod.fst)[j]? = some g.1 := by rw [List.getElem?_map, c]; simp [e]
        have a2 : (gs.map Prod.fst)[k]? = some g.1 := by rw [List.getElem?_map, hg]; rfl
        obtain ⟨l1, q1⟩ := List.getElem?_eq_some_iff.1 a1
        obtain ⟨l2, q2⟩ := List.getElem?_eq_some_iff.1 a2
        exact ej ((List.getElem_inj (h₀ := l1) (h₁ := l2) h.banks.nd).1 (by rw [q1, q2]))
      exact ⟨(kk _ hzg).trans w1, w2, w3, w4⟩
end
theorem inO_keys (m : MS) : ∀ k, ((inO m k).map Prod.fst).Nodup ∧ ∀ t ∈ inO m k, t.1 < (k : Int)
  | 0 => by simp [inO]
  | k + 1 => by
    obtain ⟨h1, h2⟩ := inO_keys m k
    cases hb : m.banks k with
    | none => rw [inO_none m k hb]; exact ⟨h1, fun t ht => by have := h2 t ht; omega⟩
    | some l =>
      rw [inO_some m k l hb]
      refine ⟨?_, ?_⟩
      · rw [List.map_append, List.nodup_append]
        refine ⟨h1, by simp, ?_⟩
        intro a ha c hc e
        simp at hc
        simp only [List.mem_map] at ha
        obtain ⟨y, hy, rfl⟩ := ha
        have := h2 y hy
        omega
      · intro t ht
        rcases List.mem_append.1 ht with ht | ht
        · have := h2 t ht; omega
        · simp at ht; subst ht; simp; omega
theorem inO_setB (m : MS) (n : Nat) (l0 l : List UInt8) (hb : m.banks n = some l0) : ∀ k, inO { m with banks := upd m.banks n l } k = setB (inO m k) (n : Int) l
  | 0 => by simp [inO, setB]
  | k + 1 => by
    have ih := inO_setB m n l0 l hb k
    by_cases e : k = n
    · subst e
      have h1 : ({ m with banks := upd m.banks k l } : MS).banks k = some l := by simp [upd]
      rw [inO_some _ k l h1, inO_some m k l0 hb, ih]
      simp [setB]
    · cases hk : m.banks k with
      | none =>
        have h1 : ({ m with banks := upd m.banks n l } : MS).banks k = none := by simp [upd, e, hk]
        rw [inO_none _ k h1, inO_none m k hk, ih]
      | some x =>
        have h1 : ({ m with banks := upd m.banks n l } : MS).banks k = some x := by simp [upd, e, hk]
        rw [inO_some _ k x h1, inO_some m k x hk, ih]
        have : ((k : Int)) ≠ (n : Int) := by omega
        simp [setB, this]
end Go.Proofs.YtgponcjjnjpfkaaGreat.M
/-! The reference: Copy, walked. -/
namespace Go.Proofs.YtgponcjjnjpfkaaGreat.M
open Go.RowKit
open Go.Proofs
set_option linter.unusedVariables false
set_option linter.unusedSimpArgs false
set_option maxRecDepth 100000 in
theorem step_full {ops : Array Oper} {o : Oper} {a : Act} {w : World} {K : Act → World → Prop} {Q : Exit → Act → World → Prop} {E : Prop} (hgd : o.guard = none) (s x : Operand) (ho : o.op = .call { callee := .value (.func 65), args := #[s, x], argTypes := #[80, 3] })
    (u v : Value) (hs : a.eval s = u) (hx : a.eval x = v) {Post : Ending → World → Prop} (hc : Calls Tryz.prog 65 #[u, v] w Post) (h : ∀ e w', Post e w' → ∃ v, e = .returned v ∧ K (a.put o.dst v) w') :
    if Region.wanted o (yielded ops a.tmps) = true then Oper.wp Tryz.prog o a w K Q else E := by
  have hw : Region.wanted o (yielded ops a.tmps) = true := by simp [Region.wanted, hgd]
  rw [if_pos hw]
  unfold Oper.wp execOp
  simp only [ho, resolve, invoke, Sem.run_bind, Sem.run_pure, Result.andThen_ok, List.map_toArray, List.map_cons, List.map_nil, hs, hx, Tryz.call65]
  refine hc.mono ?_
  intro e w' hp
  obtain ⟨v, rfl, hk⟩ := h e w' hp
  exact hk
set_option maxHeartbeats 4000000
set_option maxRecDepth 100000
theorem rcopy_any (b : Nat) (bs : List (Int × List UInt8)) (m : MS) (pb : Option Addr) (c : Nat) (rv sv tv : Value) (w : World) (h : RV w b bs m pb c rv sv tv) :
    Calls Tryz.prog 83 #[.pointer (some ⟨b, 0, none⟩)] w fun e w' => ∃ b', e = .returned (.pointer (some ⟨b', 0, none⟩)) ∧ HasR w' (fun k => w.heap.size ≤ k) b' (padB bs) { m with ram := padN 16384 m.ram, scr := padN 3072 m.scr } ∧ Below w.heap.size w w' := by
  have c0 := cell_of w b 0 _ 130 _ h.blk rfl
  have c1 := cell_of w b 1 _ 130 _ h.blk rfl
  have c2 := cell_of w b 2 _ 130 _ h.blk rfl
  have c3 := cell_of w b 3 _ 130 _ h.blk rfl
  have c4 := cell_of w b 4 _ 130 _ h.blk rfl
  have c5 := cell_of w b 5 _ 130 _ h.blk rfl
  have c6 := cell_of w b 6 _ 130 _ h.blk rfl
  have c7 := cell_of w b 7 _ 130 _ h.blk rfl
  have c8 := cell_of w b 8 _ 130 _ h.blk rfl
  have c9 := cell_of w b 9 _ 130 _ h.blk rfl
  have hbw := lt_of h.blk
  have hrv : ∃ p n c, rv = .slice p n c := by obtain ⟨p, c, e, _⟩ := h.rs.ex; exact ⟨p, _, c, e⟩
  have hsv : ∃ p n c, sv = .slice p n c := by obtain ⟨p, c, e, _⟩ := h.ss.ex; exact ⟨p, _, c, e⟩
  have htv : ∃ p n c, tv = .slice p n c := by rcases h.ts with ⟨e, _⟩ | ⟨ad, c, e, _⟩ <;> exact ⟨_, _, _, e⟩
  obtain ⟨rp, rn, rc, rfl⟩ := hrv
  obtain ⟨sp, sn, sc', rfl⟩ := hsv
  obtain ⟨tp, tn, tcp, rfl⟩ := htv
  have HH : Hid _ := h
  have hl := h.bl
  unfold room at hl
  clear h
  go_enter Tryz.func83, Tryz.ntmps83
  go_wp2
  go_loopw [15] (fun i wr => ∃ (k : Nat) (v : Value) (gs : List (Nat × Nat)), k ≤ bs.length ∧ i = .int .i64 (k : Int) ∧ CR w wr v (.slice rp rn rc) (.slice sp sn sc') m (.slice tp tn tcp) (padB (bs.take k)) gs) (fun i _ => bs.length - (intOf i).toNat)
  case atStart => exact ⟨0, _, [], by omega, rfl, CR.start w _ _ m _⟩
  case round =>
    clear c0 c1 c2 c3 c4 c5 c6 c7 c8 c9
    obtain ⟨k, v, gs, hk, rfl, hC⟩ := hrel
    by_cases hlt : k < bs.length
    · have i1 : (k : Int) < bs.length := by omega
      obtain ⟨bb, o, dv, rfl, e1, e2, e3, e4⟩ := HH.out.bn.below hC.bel k bs[k] (List.getElem?_eq_getElem hlt)
      have hdl := HH.out.dl bs[k] (List.getElem_mem hlt)
      have htk : padB (bs.take (k + 1)) = padB (bs.take k) ++ [((bs[k]).1, padN 16384 (bs[k]).2)] := by rw [List.take_succ_eq_append_getElem hlt, padB_snoc]
      generalize bs[k] = t at *
      have hbL : Below wr.heap.size wr (wr.alloc (.cells #[.int .i64 t.1, dv] 82)).drew := ((Below.refl _ _).alloc (Nat.le_refl _) _).drew
      have hv2 : (wr.alloc (.cells #[.int .i64 t.1, dv] 82)).drew.heap[wr.heap.size]? = some (.cells [.int .i64 t.1, dv].toArray 82 (0, 0)) := heap_alloc_new wr _
      have hfu := full_any dv t.2 16384 (by omega) hdl (wr.alloc (.cells #[.int .i64 t.1, dv] 82)).drew (Sl.below e3 hbL)
      have hN := hC.siz
      have hz1 : (wr.alloc (.cells #[.int .i64 t.1, dv] 82)).drew.heap.size = wr.heap.size + 1 := by simp
      have hne : wr.heap.size ≠ w.heap.size := by omega
      have cN : (wr.alloc (.cells #[.int .i64 t.1, dv] 82)).cell? ⟨w.heap.size, 0, none⟩ = some v := cell_of _ _ 0 _ 130 _ ((Below.heap_alloc wr _ _ (by omega)).trans hC.blk) rfl
      have s1 : (wr.alloc (.cells #[.int .i64 t.1, dv] 82)).drew.cell? ⟨wr.heap.size, 0, none⟩ = some (.int .i64 t.1) ∧ (wr.alloc (.cells #[.int .i64 t.1, dv] 82)).drew.cell? ⟨wr.heap.size, 1, none⟩ = some dv := ⟨cell_of _ _ 0 _ 82 _ hv2 rfl, cell_of _ _ 1 _ 82 _ hv2 rfl⟩
      obtain ⟨vp, vc, hvf⟩ := own_form hC.banks.row
      subst hvf
      have hlk : (padB (bs.take k)).length = k := by simp [padB]; omega
      rw [hlk] at hC cN
      have hend : ∀ w2 : World, Below (wr.alloc (.cells #[.int .i64 t.1, dv] 82)).drew.heap.size (wr.alloc (.cells #[.int .i64 t.1, dv] 82)).drew w2 → B5 w2 (wr.heap.size + 1) (padN 16384 t.2) → w2.heap.size = wr.heap.size + 1 + 1 →
          w2.cell? ⟨w.heap.size, 0, none⟩ = some (.slice vp k vc) ∧ (w2.cell? ⟨wr.heap.size, 0, none⟩ = some (.int .i64 t.1) ∧ w2.cell? ⟨wr.heap.size, 1, none⟩ = some dv) ∧
          ((w2.alloc (.cells #[.int .i64 t.1, .slice (some ⟨wr.heap.size + 1, 0, none⟩) 16384 16384] 82)).cell? ⟨w.heap.size, 0, none⟩ = some (.slice vp k vc)) ∧
          ((w2.alloc (.cells #[.int .i64 t.1, .slice (some ⟨wr.heap.size + 1, 0, none⟩) 16384 16384] 82)).cell? ⟨wr.heap.size, 0, none⟩ = some (.int .i64 t.1) ∧ (w2.alloc (.cells #[.int .i64 t.1, .slice (some ⟨wr.heap.size + 1, 0, none⟩) 16384 16384] 82)).cell? ⟨wr.heap.size, 1, none⟩ = some dv) ∧
          (w2.alloc (.cells #[.int .i64 t.1, .slice (some ⟨wr.heap.size + 1, 0, none⟩) 16384 16384] 82)).ownsRow (w.heap.size + 1) 82 2 (.slice vp k vc) k (bcs (padB (bs.take k)) gs) ∧
          Cs (w2.alloc (.cells #[.int .i64 t.1, .slice (some ⟨wr.heap.size + 1, 0, none⟩) 16384 16384] 82)) (.slice (some ⟨w2.heap.size, 0, none⟩) 1 1) 2 1 (bc (t.1, padN 16384 t.2) (wr.heap.size + 1, 16384)) ∧
          w.heap.size + 1 ≤ (w2.alloc (.cells #[.int .i64 t.1, .slice (some ⟨wr.heap.size + 1, 0, none⟩) 16384 16384] 82)).heap.size ∧
          (∀ v' w4, w4.ownsRow (w.heap.size + 1) 82 2 v' (k + 1) (bcs (padB (bs.take k)) gs ++ bc (t.1, padN 16384 t.2) (wr.heap.size + 1, 16384)) → Grew (w2.alloc (.cells #[.int .i64 t.1, .slice (some ⟨wr.heap.size + 1, 0, none⟩) 16384 16384] 82)) w4 (.slice vp k vc) v' →
            (w4.cell? ⟨wr.heap.size, 0, none⟩ = some (.int .i64 t.1) ∧ w4.cell? ⟨wr.heap.size, 1, none⟩ = some dv) ∧ w4.cell? ⟨w.heap.size, 0, none⟩ = some (.slice vp k vc) ∧ w4.frozen? ⟨w.heap.size, 0, none⟩ = false ∧
            CR w (w4.setCell ⟨w.heap.size, 0, none⟩ v') v' (.slice rp rn rc) (.slice sp sn sc') m (.slice tp tn tcp) (padB (bs.take (k + 1))) (gs ++ [(wr.heap.size + 1, 16384)])) := by
        intro w2 hb2 h52 hz2
        have kp : ∀ j, j < wr.heap.size + 1 → w2.heap[j]? = (wr.alloc (.cells #[.int .i64 t.1, dv] 82)).drew.heap[j]? := fun j hj => hb2.block j (by omega)
        have kw : ∀ j, j < wr.heap.size → w2.heap[j]? = wr.heap[j]? := fun j hj => (kp j (by omega)).trans (Below.heap_alloc wr _ j hj)
        have b2 := (kw w.heap.size (by omega)).trans hC.blk
        have v2 := (kp wr.heap.size (by omega)).trans hv2
        have al : ∀ j, j < w2.heap.size → (w2.alloc (.cells #[.int .i64 t.1, .slice (some ⟨wr.heap.size + 1, 0, none⟩) 16384 16384] 82)).heap[j]? = w2.heap[j]? := fun j hj => Below.heap_alloc w2 _ j hj
        have b3 := (al w.heap.size (by omega)).trans b2
        have v3 := (al wr.heap.size (by omega)).trans v2
        have hln : (padN 16384 t.2).length = 16384 := padN_len _ _ hdl
        refine ⟨cell_of _ _ 0 _ 130 _ b2 rfl, ⟨cell_of _ _ 0 _ 82 _ v2 rfl, cell_of _ _ 1 _ 82 _ v2 rfl⟩, cell_of _ _ 0 _ 130 _ b3 rfl, ⟨cell_of _ _ 0 _ 82 _ v3 rfl, cell_of _ _ 1 _ 82 _ v3 rfl⟩, ?_, ?_, by simp; omega, ?_⟩
        · have := hC.banks.row
          rw [hlk] at this
          exact own_kept this fun g e hg => (al g (by omega)).trans (kw g hg)
        · refine .inr ⟨⟨w2.heap.size, 0, none⟩, 1, rfl, rfl, ?_, by intro x hx; simp [bc] at hx; rcases hx with rfl | rfl <;> rfl⟩
          intro j x hj
          have hn : (w2.alloc (.cells #[.int .i64 t.1, .slice (some ⟨wr.heap.size + 1, 0, none⟩) 16384 16384] 82)).heap[w2.heap.size]? = some (.cells (bc (t.1, padN 16384 t.2) (wr.heap.size + 1, 16384)).toArray 82 (0, 0)) := by
            simp only [bc, hln]; exact heap_alloc_new w2 _
          have e : (⟨w2.heap.size, 0, none⟩ : Addr).add j = ⟨w2.heap.size, j, none⟩ := by rw [Addr.add_lit]; simp
          rw [e]
          exact cell_of _ _ _ _ 82 x hn hj
        · intro v' w4 ho hg
          have nv : ∀ j, j ≤ w.heap.size ∨ j = wr.heap.size → some j ≠ (Value.slice vp k vc).ownBlock := by
            intro j hj e
            rcases hj with hj | hj
            · have := (hC.banks.row.lt j e.symm).1; omega
            · have := (hC.banks.row.lt j e.symm).2; omega
          have b4 := (hg.block w.heap.size (by simp; omega) (nv _ (.inl (Nat.le_refl _)))).trans b3
          have v4 := (hg.block wr.heap.size (by simp; omega) (nv _ (.inr rfl))).trans v3
          refine ⟨⟨cell_of _ _ 0 _ 82 _ v4 rfl, cell_of _ _ 1 _ 82 _ v4 rfl⟩, cell_of _ _ 0 _ 130 _ b4 rfl, frozen_of _ _ 0 _ 130 b4, ?_⟩
          rw [htk]
          exact hC.step (t.1, padN 16384 t.2) (wr.heap.size + 1) _ _ hb2 hz1.symm h52 hln hg (by rw [hlk]; exact ho)
      obtain ⟨dp, dc, rfl, _⟩ := e3.ex
      rw [hz1] at hfu
      have hk1 : (k + 1) * 32 ≤ room := by unfold room; omega
      have hk2 : k + 1 ≤ maxLen := by unfold maxLen; omega
      have HE : Hid _ := hend
      have HZ : Hid _ := hz1
      clear hend hC e3 hv2 hbL htk hlk hz1
      go_wp2_with fail
      obtain ⟨s1a, s1b⟩ := s1
      go_region_law
        (first
          | (refine step_append_row rfl (.tmp 20) (.tmp 27) 83 82 (.agg #[.int .i64 0, .slice none 0 0]) 2 32 Tryz.underlying83 info37 rfl (by decide) rfl (w.heap.size + 1) (.slice vp k vc) k (bcs (padB (bs.take k)) gs) (by simp [Act.eval]) hown (.slice (some ⟨w2.heap.size, 0, none⟩) 1 1) 1 (bc (t.1, padN 16384 t.2) (wr.heap.size + 1, 16384)) (by simp [Act.eval]) hcs hk1 hk2 hwz ?_; intro v' w4 ho hg; obtain ⟨g9, cap9, rfl⟩ := own_pos ho (Nat.succ_pos k); obtain ⟨s4, cN4, zN4, hCR⟩ := hE2 (.slice (some ⟨g9, 0, none⟩) (k + 1) cap9) w4 ho hg; clear hE2 ho hg hown hcs s2a s2b cN2 cN3)
          | (refine step_full rfl (.tmp 24) (.const (.int .i64 16384)) rfl (.slice dp t.2.length dc) (.int .i64 16384) (by simp [Act.eval]) (by simp [Act.eval]) hfu ?_; rintro e w2 ⟨rfl, h52, hb2, hz2⟩; refine ⟨_, rfl, ?_⟩; obtain ⟨cN2, ⟨s2a, s2b⟩, cN3, s3, hown, hcs, hwz, hE2⟩ := HE.out w2 (by rw [HZ.out]; exact hb2) h52 hz2; clear hfu HE h52 hb2 hz2 s3 s1a s1b))
      all_goals
        have HC : Hid _ := hCR
        clear hCR
        go_wp2
        go_roundw
        case rel =>
          first
            | exact ⟨k + 1, _, _, by omega, by go_num, HC.out⟩
            | ((repeat apply Exists.intro); refine ⟨⟨k + 1, _, _, by omega, ?_, HC.out⟩, rfl⟩; go_num)
        case measure => simp [intOf]; omega
    · obtain rfl : k = bs.length := by omega
      rw [List.take_length] at hC
      have hR3 := HH.out.below hC.bel
      have k1 := cell_of wr b 1 _ 130 _ hR3.blk rfl
      have hsz := hC.siz
      have hf1 := full_any (.slice rp rn rc) m.ram 16384 (by omega) hR3.rl wr hR3.rs
      have g3 := hC.blk
      have HC : Hid _ := hC
      have HB3 : Hid _ := hC.bel
      clear hC hR3
      go_wp2_with fail
      refine hf1.mono ?_
      rintro e w4 ⟨rfl, h54, hb4, hz4⟩
      have g4 := (hb4.block w.heap.size (by omega)).trans g3
      have k4 := cell_of w4 w.heap.size 1 _ 130 _ g4 rfl
      have z4 := frozen_of w4 w.heap.size 1 _ 130 g4
      have hB4 : Below w.heap.size w w4 := HB3.out.trans (hb4.mono (by omega))
      obtain ⟨w5, hw5⟩ : ∃ w5, w4.setCell ⟨w.heap.size, 1, none⟩ (.slice (some ⟨wr.heap.size, 0, none⟩) 16384 16384) = w5 := ⟨_, rfl⟩
      have hB5 : Below w.heap.size w w5 := by rw [← hw5]; exact hB4.setCell (p := ⟨w.heap.size, 1, none⟩) (Nat.le_refl _) _
      have hz5 : w5.heap.size = w4.heap.size := by rw [← hw5, setCell_size]
      have g5 := setCell_heap w4 w.heap.size 1 _ 130 (.slice (some ⟨wr.heap.size, 0, none⟩) 16384 16384) g4
      rw [hw5] at g5
      have hR5 := HH.out.below hB5
      have k5 := cell_of w5 b 2 _ 130 _ hR5.blk rfl
      have hf2 := full_any (.slice sp sn sc') m.scr 3072 (by omega) hR5.sl w5 hR5.ss
      have H54 : Hid _ := h54
      have Hb4 : Hid _ := hb4
      have HB5 : Hid _ := hB5
      have HW5 : Hid _ := hw5.symm
      have HZ4 : Hid _ := hz4
      clear hf1 h54 hb4 hB4 hB5 hR5 g3 g4 hz4 k1
      go_wp2_with fail
      clear hw5 k4 z4
      refine hf2.mono ?_
      rintro e w6 ⟨rfl, h56, hb6, hz6⟩
      have g6 := (hb6.block w.heap.size (by have := HZ4.out; omega)).trans g5
      have k6 := cell_of w6 w.heap.size 2 _ 130 _ g6 rfl
      have z6 := frozen_of w6 w.heap.size 2 _ 130 g6
      have hB6 : Below w.heap.size w w6 := HB5.out.trans (hb6.mono (by have := HZ4.out; omega))
      obtain ⟨w7, hw7⟩ : ∃ w7, w6.setCell ⟨w.heap.size, 2, none⟩ (.slice (some ⟨w5.heap.size, 0, none⟩) 3072 3072) = w7 := ⟨_, rfl⟩
      have hB7 : Below w.heap.size w w7 := by rw [← hw7]; exact hB6.setCell (p := ⟨w.heap.size, 2, none⟩) (Nat.le_refl _) _
      have hR7 := HH.out.below hB7
      have hb7a : Below w7.heap.size w7 (w7.alloc (.cells #[] 53)) := (Below.refl _ _).alloc (Nat.le_refl _) _
      have k7 := cell_of (w7.alloc (.cells #[] 53)) b 9 _ 130 _ ((hR7.below hb7a).blk) rfl
      have hr0 : (w7.alloc (.cells #[] 53)).ownsRow w7.heap.size 53 3 (.slice (some ⟨w7.heap.size, 0, none⟩) 0 0) 0 [] :=
        ⟨rfl, .inr ⟨w7.heap.size, 0, #[], rfl, Nat.le_refl _, heap_alloc_new w7 _, Nat.le_refl _, by decide, by simp, by simp⟩⟩
      have hcs := hR7.ts.below hb7a
      have htl := hR7.tl
      have hfin := fun tv' => copy_end (tv' := tv') HC.out Hb4.out H54.out HZ4.out HW5.out hb6 h56 hz6 hw7.symm HH.out.rl HH.out.sl
      have HF : Hid _ := hfin
      clear hf2 h56 hb6 hB6 hB7 hR7 g5 g6 hz6 hz5 k5 hfin
      go_wp2_with (first | (at_builtin; refine wpList_append_row _ rfl _ _ 50 53 _ 3 16 Tryz.underlying50 info90 rfl (by decide) rfl w7.heap.size _ 0 [] rfl hr0 _ m.tones.length (tc m.tones) rfl hcs (by unfold room; omega) (by unfold maxLen; omega) hb7a.size ?_))
      intro v' w8 hr8 hg8
      have hb8 : Below w7.heap.size w7 w8 := hg8.belowAll (fun g e => (hr0.lt g e).1) hb7a (Nat.le_refl _)
      obtain ⟨tp2, tc2, rfl⟩ := own_form hr8
      (try simp only [Nat.zero_add, List.nil_append] at hr8)
      obtain ⟨k8, z8, hRes, hBel⟩ := HF.out _ w8 hb8 hr8
      (try simp only [Nat.zero_add])
      clear hr8 hg8 hb8 hr0 hcs hb7a k7 HF
      go_wp2
      go_ret
      exact ⟨_, rfl, hRes, hBel⟩
end Go.Proofs.YtgponcjjnjpfkaaGreat.M
/-! MemRestores: the image that is tried. -/
namespace Go.Proofs.YtgponcjjnjpfkaaGreat.M
open Go.RowKit
open Go.Proofs
set_option linter.unusedVariables false
set_option linter.unusedSimpArgs false
/-! ### The banks in order are the banks -/
/-! ### The image in the box -/
theorem B5.sl {W : World} {g : Nat} {l : List UInt8} {n : Nat} (h : B5 W g l) (hn : l.length = n) : Sl W (.slice (some ⟨g, 0, none⟩) n n) l := by
  refine .inr ⟨⟨g, 0, none⟩, n, by rw [hn], by omega, fun j x hj => ?_⟩
  rw [Addr.add_lit, Nat.zero_add]
  exact cell_of W g _ _ 5 _ h ((bv_get l _ _).2 ⟨x, hj, rfl⟩)
end Go.Proofs.YtgponcjjnjpfkaaGreat.M
/-! The reference: Copy and Image of a memory. -/
namespace Go.Proofs.YtgponcjjnjpfkaaGreat.M
open Go.RowKit
open Go.Proofs
set_option linter.unusedVariables false
set_option linter.unusedSimpArgs false
theorem RB.ex {W : World} {B : Nat} {v : Value} {bs : List (Int × List UInt8)} {gs : List (Nat × Nat)} (h : RB W B v bs gs) : ∃ p c, v = .slice p bs.length c ∧ BnS W p bs := by
  rcases h.row.2 with ⟨rfl, e⟩ | ⟨g, cap, cur, rfl, _⟩
  · have : bs = [] := List.eq_nil_of_length_eq_zero e
    subst this
    exact ⟨none, 0, rfl, fun i t ht => by simp at ht⟩
  · refine ⟨_, cap, rfl, fun i t ht => ?_⟩
    have hi := (List.getElem?_eq_some_iff.1 ht).1
    have hig : i < gs.length := by rw [h.len]; exact hi
    have hg : gs[i]? = some gs[i] := List.getElem?_eq_getElem hig
    obtain ⟨k1, k2⟩ := bcs_get bs gs i t _ ht hg
    have c1 := World.ownsRow.cells h.row (g := g) rfl _ _ k1
    have c2 := World.ownsRow.cells h.row (g := g) rfl _ _ k2
    rw [Addr.add_lit] at c1 c2
    obtain ⟨x1, x2, x3, _⟩ := h.dat i t _ ht hg
    rw [x2, x3] at c2
    refine ⟨g, 0, _, rfl, c1, c2, B5.sl x1 x3, by rw [x3]; unfold room; omega⟩
theorem MemR.rv {W : World} {F : Nat → Prop} {b : Nat} {bs : List (Int × List UInt8)} {m : MS} {u : Value} {gr gc : Nat} {gs : List (Nat × Nat)} {tv : Value} (h : MemR W F b bs m u gr gc gs tv) (hl : bs.length ≤ 16) (ht : m.tones.length ≤ 1000000) :
    ∃ pb c, u = .slice pb bs.length c ∧ RV W b bs m pb c (.slice (some ⟨gr, 0, none⟩) 16384 16384) (.slice (some ⟨gc, 0, none⟩) 3072 3072) tv := by
  obtain ⟨p, c, rfl, hb⟩ := h.banks.ex
  refine ⟨p, c, rfl, h.blk, hb, B5.sl h.ram h.rl, B5.sl h.scr h.sl, TRow.cs h.tones, by rw [h.rl]; omega, by rw [h.sl]; omega, by unfold room; omega, fun t ht => ?_, ht⟩
  obtain ⟨i, hi, e⟩ := List.mem_iff_getElem.1 ht
  have hg : i < gs.length := by rw [h.banks.len]; exact hi
  have := (h.banks.dat i t _ (by rw [List.getElem?_eq_getElem hi, e]) (List.getElem?_eq_getElem hg)).2.2.1
  omega
theorem padB_full (bs : List (Int × List UInt8)) (h : ∀ t ∈ bs, t.2.length = 16384) : padB bs = bs := by
  unfold padB
  conv => rhs; rw [← List.map_id bs]
  apply List.map_congr_left
  intro t ht
  rw [padN_full _ _ (h t ht)]; rfl
theorem inO_full (m : MS) (hw : Wf m) (k : Nat) : ∀ t ∈ inO m k, t.2.length = 16384 := by
  intro t ht
  obtain ⟨n, hn⟩ := inO_fst m k t ht
  have : ((n : Int), t.2) ∈ inO m k := by rw [← hn]; exact ht
  exact (hw.bk _ _ ((inO_mem m n t.2 k).1 this).2).2
theorem rcopy_is (b : Nat) (w : World) {F : Nat → Prop} {m : MS} (hm : IsR w F b m) (ht : m.tones.length ≤ 1000000) :
    Calls Tryz.prog 83 #[.pointer (some ⟨b, 0, none⟩)] w fun e w' => ∃ b', e = .returned (.pointer (some ⟨b', 0, none⟩)) ∧ IsR w' (fun k => w.heap.size ≤ k) b' m ∧ Below w.heap.size w w' := by
  obtain ⟨hw, u, gr, gc, gs, tv, h⟩ := hm
  obtain ⟨p, c, rfl, hv⟩ := h.rv (inO_len m 16) ht
  refine (rcopy_any b _ m p c _ _ _ w hv).mono ?_
  rintro e w' ⟨b', rfl, hR, hB⟩
  rw [padB_full _ (inO_full m hw 16), padN_full _ _ hw.ram, padN_full _ _ hw.scr] at hR
  exact ⟨b', rfl, ⟨hw, hR⟩, hB⟩
/-- What the reference's image shows. -/
structure RIm (W : World) (pb : Option Addr) (gr gc : Nat) (m : MS) : Prop where
  bn : BnS W pb (inO m 16)
  ram : Sl W (.slice (some ⟨gr, 0, none⟩) 16384 16384) m.ram
  scr : Sl W (.slice (some ⟨gc, 0, none⟩) 3072 3072) m.scr
theorem RIm.below {W W' : World} {pb : Option Addr} {gr gc : Nat} {m : MS} (h : RIm W pb gr gc m) (k : Below W.heap.size W W') : RIm W' pb gr gc m := ⟨h.bn.below k, h.ram.below k, h.scr.below k⟩
theorem rimage_end (w w1 w2 : World) {b' : Nat} {m : MS} (hm : IsR w2 (fun k => w1.heap.size ≤ k) b' m) (hb1 : Below w.heap.size w w1) (hz1 : w1.heap.size = w.heap.size + 1) (hb2 : Below w1.heap.size w1 w2)
    (hr1 : w1.heap[w.heap.size]? = some (.cells [.slice none 0 0, .slice none 0 0, .slice none 0 0, .int .u8 0, .int .u8 0, .int .u16 0, .int .u8 0, .int .u16 0].toArray 125 (0, 0))) :
    ∃ pb cb gr gc tv, w2.heap[b']? = some (.cells (rcells (.slice pb (inO m 16).length cb) (.slice (some ⟨gr, 0, none⟩) 16384 16384) (.slice (some ⟨gc, 0, none⟩) 3072 3072) m tv).toArray 130 (0, 0)) ∧
      b' ≠ w.heap.size ∧ w2.heap[w.heap.size]? = some (.cells [.slice none 0 0, .slice none 0 0, .slice none 0 0, .int .u8 0, .int .u8 0, .int .u16 0, .int .u8 0, .int .u16 0].toArray 125 (0, 0)) ∧
      (st8 w2 w.heap.size (.slice pb (inO m 16).length cb) (.slice (some ⟨gr, 0, none⟩) 16384 16384) (.slice (some ⟨gc, 0, none⟩) 3072 3072) m).heap[w.heap.size]? = some (.cells (imgC (.slice pb (inO m 16).length cb) (.slice (some ⟨gr, 0, none⟩) 16384 16384) (.slice (some ⟨gc, 0, none⟩) 3072 3072) m).toArray 125 (0, 0)) ∧
      RIm (st8 w2 w.heap.size (.slice pb (inO m 16).length cb) (.slice (some ⟨gr, 0, none⟩) 16384 16384) (.slice (some ⟨gc, 0, none⟩) 3072 3072) m) pb gr gc m ∧
      Below w.heap.size w (st8 w2 w.heap.size (.slice pb (inO m 16).length cb) (.slice (some ⟨gr, 0, none⟩) 16384 16384) (.slice (some ⟨gc, 0, none⟩) 3072 3072) m) := by
  obtain ⟨hw, u, gr, gc, gs, tv, h⟩ := hm
  obtain ⟨p, c, rfl, _⟩ := h.banks.ex
  have z2 := hb2.size
  have hr2 := (hb2.block w.heap.size (by omega)).trans hr1
  have h9 := h.kept (W' := st8 w2 w.heap.size (.slice p (inO m 16).length c) (.slice (some ⟨gr, 0, none⟩) 16384 16384) (.slice (some ⟨gc, 0, none⟩) 3072 3072) m) fun i _ hi => st8_other w2 w.heap.size i _ _ _ m (by omega)
  obtain ⟨p2, c2, e2, hb⟩ := h9.banks.ex
  cases e2
  refine ⟨p, c, gr, gc, tv, h.blk, by have : w1.heap.size ≤ b' := h.fb; omega, hr2, st8_heap w2 _ _ _ _ m _ 125 rfl hr2, ⟨hb, B5.sl h9.ram h9.rl, B5.sl h9.scr h9.sl⟩, st8_below w2 _ _ _ _ m (hb1.trans (hb2.mono (by omega))) (by omega)⟩
end Go.Proofs.YtgponcjjnjpfkaaGreat.M
/-! The reference: New. -/
namespace Go.Proofs.YtgponcjjnjpfkaaGreat.M
open Go.RowKit
open Go.Proofs
set_option linter.unusedVariables false
set_option linter.unusedSimpArgs false
set_option maxHeartbeats 2000000
set_option maxRecDepth 100000
theorem rnew_no (p : Option Addr) (c : Nat) (bs : List (Int × List UInt8)) (hl : bs.length ≤ room) (w : World) (h : BnS w p bs) (hm : mayB (-1) bs = false) :
    Calls Tryz.prog 44 #[.slice p bs.length c] w fun e w' => e = .returned (.tuple #[.pointer none, .int .i64 2]) ∧ Below w.heap.size w w' := by
  have hmy := mayBanks_any p c bs hl w h
  rw [hm] at hmy
  clear h hm
  go_enter Tryz.func44, Tryz.ntmps44
  go_wp2_with fail
  refine hmy.mono ?_
  rintro e w2 ⟨rfl, hb⟩
  have HB : Hid _ := hb
  clear hb hmy
  go_wp2
  go_ret2
  exact ⟨rfl, HB.out⟩
/-- A memory of nothing. -/
def ms0 : MS := ⟨fl 16384 [] 0, fl 3072 [] 0, 0, 0, 0, 0, 0, 0, [], fun _ => none⟩
/-- Ahead of the banks: the two lists of a new memory. -/
structure NW (w wM : World) (gr gc : Nat) : Prop where
  ram : B5 wM gr ms0.ram
  scr : B5 wM gc ms0.scr
  ne : gr ≠ gc
  lr : w.heap.size ≤ gr
  lc : w.heap.size ≤ gc
  bel : Below w.heap.size w wM
theorem nw_a (w : World) : NW w ((w.alloc (.cells (bv (fl 16384 [] 0)).toArray 5)).alloc (.cells (bv (fl 3072 [] 0)).toArray 5)) w.heap.size (w.heap.size + 1) := by
  refine ⟨(Below.heap_alloc _ _ _ (by simp)).trans (heap_alloc_new w _), ?_, by omega, Nat.le_refl _, by omega, ((Below.refl _ w).alloc (Nat.le_refl _) _).alloc (by simp) _⟩
  have := heap_alloc_new (w.alloc (.cells (bv (fl 16384 [] 0)).toArray 5)) (.cells (bv (fl 3072 [] 0)).toArray 5)
  have e : (w.alloc (.cells (bv (fl 16384 [] 0)).toArray 5)).heap.size = w.heap.size + 1 := by simp
  rw [e] at this; exact this
theorem nw_b (w : World) : NW w ((w.alloc (.cells (bv (fl 3072 [] 0)).toArray 5)).alloc (.cells (bv (fl 16384 [] 0)).toArray 5)) (w.heap.size + 1) w.heap.size := by
  refine ⟨?_, (Below.heap_alloc _ _ _ (by simp)).trans (heap_alloc_new w _), by omega, by omega, Nat.le_refl _, ((Below.refl _ w).alloc (Nat.le_refl _) _).alloc (by simp) _⟩
  have := heap_alloc_new (w.alloc (.cells (bv (fl 3072 [] 0)).toArray 5)) (.cells (bv (fl 16384 [] 0)).toArray 5)
  have e : (w.alloc (.cells (bv (fl 3072 [] 0)).toArray 5)).heap.size = w.heap.size + 1 := by simp
  rw [e] at this; exact this
end Go.Proofs.YtgponcjjnjpfkaaGreat.M
