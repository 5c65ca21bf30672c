import Derived.Test.YtcnhfgoflfnocaaRef
/-! The reference's return stack; its Need. -/
namespace Go.Proofs.Ytcnhfgoflfnocaa
open Go.RowKit
open Go.Proofs
set_option linter.unusedVariables false
set_option linter.unusedSimpArgs false
/-- The reference's return stack. -/
structure QV (W : World) (B bq : Nat) (qv : Value) (D : List (Int × Int)) : Prop where
  blk : W.heap[bq]? = some (.cells [qv].toArray 66 (0, 0))
  row : RowK W B qv D
  hb : B ≤ bq
  len : D.length ≤ 128
theorem QV.kt {S : TypeId → Prop} {B0 : Nat} {W W' : World} {B bq : Nat} {qv : Value} {D : List (Int × Int)} (h : QV W B bq qv D) (k : KT S B0 W W') (h1 : ¬ S 66) (h2 : ¬ S 43) : QV W' B bq qv D :=
  ⟨k.typ _ _ _ _ h.blk h1, k.own h.row h2, h.hb, h.len⟩
theorem rowK_pos {W : World} {B : Nat} {v : Value} {l : List (Int × Int)} (h : RowK W B v l) (h0 : 0 < l.length) : ∃ g cap, v = .slice (some ⟨g, 0, none⟩) l.length cap ∧ B ≤ g ∧ l.length ≤ cap := by
  rcases h.2 with ⟨_, h⟩ | ⟨g, cap, cur, h1, h2, h3, h4, _⟩
  · omega
  · exact ⟨g, cap, h1, h2, h4⟩
theorem rowK_get {W : World} {B g cap : Nat} {l : List (Int × Int)} (h : RowK W B (.slice (some ⟨g, 0, none⟩) l.length cap) l) (i : Nat) (a : Int × Int) (ha : l[i]? = some a) : W.cell? ⟨g, i * 2, none⟩ = some (.int .i64 a.1) ∧ W.cell? ⟨g, i * 2 + 1, none⟩ = some (.int .u16 a.2) := by
  rcases h.ls with ⟨e, _⟩ | ⟨x, c, e, _, hs⟩
  · cases e
  · simp only [Value.slice.injEq, true_and] at e
    obtain ⟨e, rfl⟩ := e
    obtain ⟨b, o, e1, e2, e3⟩ := hs.k i a ha
    rw [← e] at e1
    simp only [Option.some.injEq, Addr.mk.injEq] at e1
    obtain ⟨rfl, rfl, _⟩ := e1
    rw [Nat.zero_add] at e2 e3
    exact ⟨e2, e3⟩
/-- An own row with one cell set. -/
theorem own_set {W : World} {B : Nat} {e : TypeId} {size g n cap : Nat} {xs : List Value} (h : W.ownsRow B e size (.slice (some ⟨g, 0, none⟩) n cap) n xs) (i : Nat) (hi : i < xs.length) (u : Value) : (W.setCell ⟨g, i, none⟩ u).ownsRow B e size (.slice (some ⟨g, 0, none⟩) n cap) n (xs.set i u) := by
  rcases h.2 with ⟨h, _⟩ | ⟨g', cap', cur, h1, h2, h3, h4, h5, h6, h7⟩
  · cases h
  · simp only [Value.slice.injEq, Option.some.injEq, Addr.mk.injEq, true_and, and_true] at h1
    obtain ⟨rfl, rfl⟩ := h1
    obtain ⟨cl⟩ := cur
    have hx : xs.length = n * size := h.1
    refine ⟨by rw [List.length_set]; exact hx, .inr ⟨g, cap, (cl.set i u).toArray, rfl, h2, setCell_heap W g i cl e u h3, h4, h5, ?_, ?_⟩⟩
    · simpa using h6
    · simp only at h7 ⊢
      rw [← h7, List.take_set]
theorem enK_set (T : List (Int × Int)) (k v x : Int) : (en eK (T ++ [(k, v)])).set (T.length * 2 + 1) (.int .u16 x) = en eK (T ++ [(k, x)]) := by
  have e2 : (en eK T).length = T.length * 2 := by rw [en_len hK]
  rw [en_append, en_append, List.set_append_right _ _ (by omega), e2, show T.length * 2 + 1 - T.length * 2 = 1 by omega]
  rfl
set_option maxHeartbeats 1000000
set_option maxRecDepth 100000
theorem qpush_no (bq B : Nat) (qv : Value) (D x : List (Int × Int)) (p : Option Addr) (c : Nat) (w : World) (h : QV w B bq qv D) (hl : 128 < D.length + x.length) (hx : x.length ≤ room) :
    Calls Try.prog 37 #[.pointer (some ⟨bq, 0, none⟩), .slice p x.length c] w fun e w' => e = .returned (.int .i64 4) ∧ w' = w := by
  obtain ⟨pe, ce, rfl⟩ := ex_slice h.row
  have c0 := cell_of w bq 0 _ 66 _ h.blk rfl
  have hd := h.len
  unfold room at hx
  have e1 : IntKind.i64.wrap ((D.length : Int) + (x.length : Int)) = (D.length : Int) + (x.length : Int) := i64_id _ (by omega) (by omega)
  have e2 : decide ((128 : Int) < (D.length : Int) + (x.length : Int)) = true := decide_eq_true (by omega)
  clear h
  go_enter Try.func37, Try.ntmps37
  go_wp2
  go_ret
  exact ⟨rfl, rfl⟩
theorem qpush_yes (bq B : Nat) (qv : Value) (D x : List (Int × Int)) (v : Value) (w : World) (h : QV w B bq qv D) (hx : Ls eK 2 w v x) (hl : D.length + x.length ≤ 128) :
    Calls Try.prog 37 #[.pointer (some ⟨bq, 0, none⟩), v] w fun e w' => e = .returned (.int .i64 0) ∧ (∃ qv', QV w' B bq qv' (D ++ x) ∧ Nw w qv qv') ∧ KT (fun t => t = 66) B w w' := by
  obtain ⟨px, cx, rfl, _, _⟩ := hx.ex
  obtain ⟨pe, ce, rfl⟩ := ex_slice h.row
  have c0 := cell_of w bq 0 _ 66 _ h.blk rfl
  have hbe := lt_of h.blk
  have hB := h.hb
  have e1 : IntKind.i64.wrap ((D.length : Int) + (x.length : Int)) = (D.length : Int) + (x.length : Int) := i64_id _ (by omega) (by omega)
  have e2 : decide ((128 : Int) < (D.length : Int) + (x.length : Int)) = false := decide_eq_false (by omega)
  have hr0 := own_empty w 43 2
  have hb0 : Below w.heap.size w (w.alloc (.cells #[] 43)) := (Below.refl _ _).alloc (Nat.le_refl _) _
  have hs0 := (h.row.ls.below hb0).cs hK (by omega) oneK
  have c1 : (w.alloc (.cells #[] 43)).cell? ⟨bq, 0, none⟩ = some (.slice pe D.length ce) := (World.cell?_of_block (w := w) (Below.heap_alloc w _ bq hbe)).trans c0
  have HX := hid hx
  have HE := hid h
  clear hx h
  go_enter Try.func37, Try.ntmps37
  go_wp2_with (first | (at_builtin; refine wpList_append_row _ rfl _ _ 44 43 _ 2 16 Try.underlying44 info43 rfl (by decide) rfl w.heap.size _ 0 [] rfl hr0 _ D.length (en eK D) rfl hs0 (by unfold room; omega) (by unfold maxLen; omega) hb0.size ?_))
  intro v1 w1 hr1 hg1
  have hb1 : Below w.heap.size w w1 := hg1.belowAll (fun g e => (hr0.lt g e).1) hb0 (Nat.le_refl _)
  have hs1 := (HX.out.below hb1).cs hK (by omega) oneK
  replace hr1 : w1.ownsRow w.heap.size 43 2 v1 D.length (en eK D) := by simpa using hr1
  have HG1 := hid hg1
  clear hr0 hs0 hg1 hb0
  go_wp2_with (first | (at_builtin; refine wpList_append_row _ rfl _ _ 44 43 _ 2 16 Try.underlying44 info43 rfl (by decide) rfl w.heap.size _ D.length (en eK D) rfl hr1 _ x.length (en eK x) rfl hs1 (by unfold room; omega) (by unfold maxLen; omega) hb1.size ?_))
  intro v2 w2 hr2 hg2
  obtain ⟨pv2, cv2, rfl⟩ := ex_slice hr2
  have hb2 : Below w.heap.size w w2 := hg2.belowAll (fun g e => (hr1.lt g e).1) hb1 (Nat.le_refl _)
  have hk2 := (hb2.block bq hbe).trans HE.out.blk
  have c2 := cell_of w2 bq 0 _ 66 _ hk2 rfl
  have z2 := frozen_of w2 bq 0 _ 66 hk2
  have hfin : (∃ qv', QV (w2.setCell ⟨bq, 0, none⟩ (.slice pv2 (D.length + x.length) cv2)) B bq qv' (D ++ x) ∧ Nw w (.slice pe D.length ce) qv') ∧ KT (fun t => t = 66) B w (w2.setCell ⟨bq, 0, none⟩ (.slice pv2 (D.length + x.length) cv2)) := by
    have hne : ∀ g, (Value.slice pv2 (D.length + x.length) cv2).ownBlock = some g → g ≠ bq := fun g e => by have := (hr2.lt g e).1; omega
    refine ⟨⟨.slice pv2 (D.length + x.length) cv2, ⟨?_, ?_, hB, by simp; omega⟩, fun g e => .inr (hr2.lt g e).1⟩, ?_⟩
    · rw [setCell_heap w2 bq 0 _ 66 _ hk2]; rfl
    · have : RowK w2 w.heap.size (.slice pv2 (D.length + x.length) cv2) (D ++ x) := by simpa [RowK, en_append] using hr2
      exact own_mono (own_kept this fun g e _ => setCell_other _ _ _ _ _ (hne g e)) (by omega)
    · exact (KT.of hb2 (by omega)).trans (KT.at ((Tc.refl (fun k => k = bq) w2).setCell bq 0 rfl (.slice pv2 (D.length + x.length) cv2)) hk2 rfl hB)
  have HF := hid hfin
  clear hfin hr1 hr2 hg2 hb1 hb2 hs1 hk2
  go_wp2
  go_ret
  exact ⟨rfl, HF.out⟩
theorem qat_under (bq B : Nat) (qv : Value) (l : List (Int × Int)) (n kind : Int) (hn : n < 0 ∨ (l.length : Int) ≤ n) (w : World) (h : QV w B bq qv l) :
    Calls Try.prog 39 #[.pointer (some ⟨bq, 0, none⟩), .int .i64 n, .int .i64 kind] w fun e w' => e = .returned (.tuple #[.int .u16 0, .int .i64 3]) ∧ w' = w := by
  obtain ⟨pe, ce, rfl⟩ := ex_slice h.row
  have c0 := cell_of w bq 0 _ 66 _ h.blk rfl
  clear h
  by_cases a : n < 0
  · go_enter Try.func39, Try.ntmps39
    go_wp2
    go_ret2
    exact ⟨rfl, rfl⟩
  · have e1 : decide (n < 0) = false := decide_eq_false a
    have e2 : decide ((l.length : Int) ≤ n) = true := decide_eq_true (by omega)
    go_enter Try.func39, Try.ntmps39
    go_wp2
    go_ret2
    exact ⟨rfl, rfl⟩
theorem qat_in (bq B : Nat) (qv : Value) (l : List (Int × Int)) (i n : Nat) (hi : i + n + 1 = l.length) (k v : Int) (ha : l[i]? = some (k, v)) (kind : Int) (w : World) (h : QV w B bq qv l) :
    Calls Try.prog 39 #[.pointer (some ⟨bq, 0, none⟩), .int .i64 (n : Int), .int .i64 kind] w fun e w' => e = .returned (if k = kind then .tuple #[.int .u16 v, .int .i64 0] else .tuple #[.int .u16 0, .int .i64 5]) ∧ Below w.heap.size w w' := by
  have hl := h.len
  obtain ⟨g, cap, rfl, _, hcap⟩ := rowK_pos h.row (by omega)
  have c0 := cell_of w bq 0 _ 66 _ h.blk rfl
  obtain ⟨x1, x2⟩ := rowK_get h.row i (k, v) ha
  dsimp only at x1 x2
  have e1 : IntKind.i64.wrap ((l.length : Int) - 1) = (l.length : Int) - 1 := i64_id _ (by omega) (by omega)
  have e2 : IntKind.i64.wrap ((l.length : Int) - 1 - (n : Int)) = (i : Int) := by rw [i64_id _ (by omega) (by omega)]; omega
  have e3 : (i : Int) < (l.length : Int) := by omega
  have e4 : decide ((n : Int) < 0) = false := decide_eq_false (by omega)
  have e5 : decide ((l.length : Int) ≤ (n : Int)) = false := decide_eq_false (by omega)
  have hB : Below w.heap.size w (w.drew.alloc (.cells #[.int .i64 k, .int .u16 v] 43)) := ((Below.refl w.heap.size w).drew).alloc (Nat.le_refl _) _
  have hbq := lt_of h.blk
  have hgw : g < w.heap.size := World.block_lt_of_cell? w _ x1
  have sA : w.drew.cell? ⟨bq, 0, none⟩ = some (.slice (some ⟨g, 0, none⟩) l.length cap) ∧ w.drew.cell? ⟨g, i * 2, none⟩ = some (.int .i64 k) ∧ w.drew.cell? ⟨g, i * 2 + 1, none⟩ = some (.int .u16 v) := ⟨c0, x1, x2⟩
  have sK : ∀ W : World, (∀ j, j < w.heap.size → W.heap[j]? = w.heap[j]?) → W.cell? ⟨bq, 0, none⟩ = some (.slice (some ⟨g, 0, none⟩) l.length cap) ∧ W.cell? ⟨g, i * 2, none⟩ = some (.int .i64 k) ∧ W.cell? ⟨g, i * 2 + 1, none⟩ = some (.int .u16 v) := fun W hj =>
    ⟨(World.cell?_of_block (w := w) (hj bq hbq)).trans c0, (World.cell?_of_block (w := w) (hj g hgw)).trans x1, (World.cell?_of_block (w := w) (hj g hgw)).trans x2⟩
  have sB : ∀ o, (w.drew.alloc o).cell? ⟨bq, 0, none⟩ = some (.slice (some ⟨g, 0, none⟩) l.length cap) ∧ (w.drew.alloc o).cell? ⟨g, i * 2, none⟩ = some (.int .i64 k) ∧ (w.drew.alloc o).cell? ⟨g, i * 2 + 1, none⟩ = some (.int .u16 v) := fun o => sK _ fun j hj => Below.heap_alloc w.drew o j hj
  have sC : ∀ o, (w.alloc o).drew.cell? ⟨bq, 0, none⟩ = some (.slice (some ⟨g, 0, none⟩) l.length cap) ∧ (w.alloc o).drew.cell? ⟨g, i * 2, none⟩ = some (.int .i64 k) ∧ (w.alloc o).drew.cell? ⟨g, i * 2 + 1, none⟩ = some (.int .u16 v) := fun o => sK _ fun j hj => Below.heap_alloc w o j hj
  clear h ha hi sK
  generalize hN : (n : Int) = M at *
  clear hN
  by_cases hk : k = kind
  · subst hk
    rw [if_pos rfl]
    go_enter Try.func39, Try.ntmps39
    go_wp2_with fail
    go_region_held (fun W => W.cell? ⟨bq, 0, none⟩ = some (.slice (some ⟨g, 0, none⟩) l.length cap) ∧ W.cell? ⟨g, i * 2, none⟩ = some (.int .i64 k) ∧ W.cell? ⟨g, i * 2 + 1, none⟩ = some (.int .u16 v))
      (first | (with_reducible exact sA) | (with_reducible exact sB _) | (with_reducible exact sC _))
      (fail)
    all_goals
      go_wp2
      go_ret2
      exact ⟨rfl, hB⟩
  · rw [if_neg hk]
    have e6 : (k != kind) = true := by simp [hk]
    go_enter Try.func39, Try.ntmps39
    go_wp2_with fail
    go_region_held (fun W => W.cell? ⟨bq, 0, none⟩ = some (.slice (some ⟨g, 0, none⟩) l.length cap) ∧ W.cell? ⟨g, i * 2, none⟩ = some (.int .i64 k) ∧ W.cell? ⟨g, i * 2 + 1, none⟩ = some (.int .u16 v))
      (first | (with_reducible exact sA) | (with_reducible exact sB _) | (with_reducible exact sC _))
      (fail)
    all_goals
      go_wp2
      go_ret2
      exact ⟨rfl, hB⟩
theorem qpop_empty (bq B : Nat) (qv : Value) (kind : Int) (w : World) (h : QV w B bq qv []) : Calls Try.prog 38 #[.pointer (some ⟨bq, 0, none⟩), .int .i64 kind] w fun e w' => e = .returned (.tuple #[.int .u16 0, .int .i64 3]) ∧ w' = w := by
  have ha := qat_under bq B qv [] 0 kind (.inr (by simp)) w h
  clear h
  go_enter Try.func38, Try.ntmps38
  go_wp2_with fail
  refine ha.mono ?_
  rintro e w1 ⟨rfl, rfl⟩
  go_wp2
  go_ret2
  exact ⟨rfl, rfl⟩
theorem qpop_kind (bq B : Nat) (qv : Value) (l : List (Int × Int)) (k v kind : Int) (hne : k ≠ kind) (w : World) (h : QV w B bq qv (l ++ [(k, v)])) : Calls Try.prog 38 #[.pointer (some ⟨bq, 0, none⟩), .int .i64 kind] w fun e w' => e = .returned (.tuple #[.int .u16 0, .int .i64 5]) ∧ Below w.heap.size w w' := by
  have ha := qat_in bq B qv _ l.length 0 (by simp) k v (by simp) kind w h
  rw [if_neg hne] at ha
  clear h
  go_enter Try.func38, Try.ntmps38
  go_wp2_with fail
  refine ha.mono ?_
  rintro e w1 ⟨rfl, hb⟩
  have HB := hid hb
  clear hb
  go_wp2
  go_ret2
  exact ⟨rfl, HB.out⟩
theorem qpop_ok (bq B : Nat) (qv : Value) (l : List (Int × Int)) (k v : Int) (w : World) (h : QV w B bq qv (l ++ [(k, v)])) : Calls Try.prog 38 #[.pointer (some ⟨bq, 0, none⟩), .int .i64 k] w fun e w' => e = .returned (.tuple #[.int .u16 v, .int .i64 0]) ∧ (∃ qv', QV w' B bq qv' l ∧ Nw w qv qv') ∧ KT (fun t => t = 66) B w w' := by
  have hlen : (l ++ [(k, v)]).length = l.length + 1 := by simp
  obtain ⟨g, cap, rfl, hg, hcap⟩ := rowK_pos h.row (by omega)
  have hl := h.len
  have hB := h.hb
  have ha := qat_in bq B _ _ l.length 0 (by simp) k v (by simp) k w h
  rw [if_pos rfl] at ha
  have hfin : ∀ w1, Below w.heap.size w w1 → (w1.cell? ⟨bq, 0, none⟩ = some (.slice (some ⟨g, 0, none⟩) (l.length + 1) cap) ∧ w1.frozen? ⟨bq, 0, none⟩ = false) ∧ (∃ qv', QV (w1.drew.setCell ⟨bq, 0, none⟩ (.slice (some ⟨g, 0, none⟩) l.length cap)) B bq qv' l ∧ Nw w (.slice (some ⟨g, 0, none⟩) (l ++ [(k, v)]).length cap) qv') ∧ KT (fun t => t = 66) B w (w1.drew.setCell ⟨bq, 0, none⟩ (.slice (some ⟨g, 0, none⟩) l.length cap)) := by
    intro w1 hb1
    have k1 : KT (fun t => t = 66) B w w1 := KT.of hb1 (by have := lt_of h.blk; omega)
    have hq : w1.heap[bq]? = _ := (hb1.block bq (lt_of h.blk)).trans h.blk
    have hrw : RowK w1 B (.slice (some ⟨g, 0, none⟩) (l ++ [(k, v)]).length cap) (l ++ [(k, v)]) := own_kept h.row fun x _ hx => hb1.block x hx
    have hrow : RowK w1 B (.slice (some ⟨g, 0, none⟩) l.length cap) l := by
      have := own_cut hrw l.length (by omega)
      rw [show (en eK (l ++ [(k, v)])).take (l.length * 2) = en eK l by rw [en_append, List.take_left' (by rw [en_len hK])]] at this
      exact this
    have hne : g ≠ bq := own_ne h.row h.blk (by decide) g rfl
    refine ⟨⟨by have := cell_of w1 bq 0 _ 66 _ hq rfl; rwa [hlen] at this, frozen_of w1 bq 0 _ 66 hq⟩, ⟨.slice (some ⟨g, 0, none⟩) l.length cap, ⟨?_, ?_, hB, by omega⟩, fun _ e => .inl e⟩, ?_⟩
    · rw [setCell_heap w1.drew bq 0 _ 66 _ hq]; rfl
    · exact own_kept (W := w1) hrow fun x e _ => setCell_other w1.drew _ _ _ _ (by simp [Value.ownBlock] at e; subst e; exact hne)
    · exact k1.trans (KT.at (((Tc.refl (fun x => x = bq) w1).drew).setCell bq 0 rfl _) hq rfl hB)
  have e1 : IntKind.i64.wrap (((l.length + 1 : Nat) : Int) - 1) = (l.length : Int) := by rw [i64_id _ (by omega) (by omega)]; omega
  have e4 : l.length ≤ cap := by omega
  have HF := hid hfin
  clear hfin h
  go_enter Try.func38, Try.ntmps38
  go_wp2_with fail
  refine ha.mono ?_
  rintro e w1 ⟨rfl, hb⟩
  obtain ⟨⟨c1, z1⟩, f2⟩ := HF.out w1 hb
  have F2 := hid f2
  clear hb ha HF f2
  go_wp2_with fail
  go_region
  all_goals
    go_wp2
    go_ret2
    exact ⟨rfl, F2.out⟩
theorem qset_none (bq B : Nat) (qv : Value) (x : Int) (w : World) (h : QV w B bq qv []) : Calls Try.prog 40 #[.pointer (some ⟨bq, 0, none⟩), .int .u16 x] w fun e w' => e = .returned (.tuple #[]) ∧ w' = w := by
  obtain ⟨pe, ce, rfl⟩ := ex_slice h.row
  have c0 := cell_of w bq 0 _ 66 _ h.blk rfl
  clear h
  go_enter Try.func40, Try.ntmps40
  go_wp2
  go_end0
  exact ⟨rfl, rfl⟩
theorem qset (bq B : Nat) (qv : Value) (l : List (Int × Int)) (k v x : Int) (w : World) (h : QV w B bq qv (l ++ [(k, v)])) : Calls Try.prog 40 #[.pointer (some ⟨bq, 0, none⟩), .int .u16 x] w fun e w' => e = .returned (.tuple #[]) ∧ (∃ qv', QV w' B bq qv' (l ++ [(k, x)]) ∧ Nw w qv qv') ∧ KT (fun t => t = 66) B w w' := by
  have hlen : (l ++ [(k, v)]).length = l.length + 1 := by simp
  obtain ⟨L, hL⟩ : ∃ L, L = l ++ [(k, v)] := ⟨_, rfl⟩
  rw [← hL] at h hlen
  have hl := h.len
  have hB := h.hb
  have hbe := lt_of h.blk
  obtain ⟨pe, ce, rfl⟩ := ex_slice h.row
  have c0 := cell_of w bq 0 _ 66 _ h.blk rfl
  have e2 : decide ((0 : Int) < (L.length : Int)) = true := decide_eq_true (by omega)
  have e1 : IntKind.i64.wrap ((L.length : Int) - 1) = (l.length : Int) := by rw [i64_id _ (by omega) (by omega)]; omega
  have e3 : (l.length : Int) < (L.length : Int) := by omega
  have hr0 := own_empty w 43 2
  have hb0 : Below w.heap.size w (w.alloc (.cells #[] 43)) := (Below.refl _ _).alloc (Nat.le_refl _) _
  have hs0 := (h.row.ls.below hb0).cs hK (by omega) oneK
  have c1 : (w.alloc (.cells #[] 43)).cell? ⟨bq, 0, none⟩ = some (.slice pe L.length ce) := (World.cell?_of_block (w := w) (Below.heap_alloc w _ bq hbe)).trans c0
  have HE := hid h
  have HLL := hid hL
  have HLen := hid hlen
  clear h hL hlen
  go_enter Try.func40, Try.ntmps40
  go_wp2_with (first | (at_builtin; refine wpList_append_row _ rfl _ _ 44 43 _ 2 16 Try.underlying44 info43 rfl (by decide) rfl w.heap.size _ 0 [] rfl hr0 _ L.length (en eK L) rfl hs0 (by unfold room; omega) (by unfold maxLen; omega) hb0.size ?_))
  intro v1 w1 hr1 hg1
  have hb1 : Below w.heap.size w w1 := hg1.belowAll (fun g e => (hr0.lt g e).1) hb0 (Nat.le_refl _)
  replace hr1 : RowK w1 w.heap.size v1 L := by simpa [RowK] using hr1
  have hLen := HLen.out
  obtain ⟨g, cap, rfl, hg, hcap⟩ := rowK_pos hr1 (by omega)
  have hk2 := (hb1.block bq hbe).trans HE.out.blk
  have c2 := cell_of w1 bq 0 _ 66 _ hk2 rfl
  have z2 := frozen_of w1 bq 0 _ 66 hk2
  obtain ⟨w2, hw2⟩ : ∃ w2, w1.setCell ⟨bq, 0, none⟩ (.slice (some ⟨g, 0, none⟩) L.length cap) = w2 := ⟨_, rfl⟩
  have hq2 := setCell_heap w1 bq 0 _ 66 (.slice (some ⟨g, 0, none⟩) L.length cap) hk2
  rw [hw2] at hq2
  have hgb : g ≠ bq := by omega
  have hr2 : RowK w2 w.heap.size (.slice (some ⟨g, 0, none⟩) L.length cap) L := by
    rw [← hw2]; exact own_kept hr1 fun y e _ => setCell_other _ _ _ _ _ (by simp [Value.ownBlock] at e; subst e; exact hgb)
  have c3 := cell_of w2 bq 0 _ 66 _ hq2 rfl
  obtain ⟨y1, y2⟩ := rowK_get hr2 l.length (k, v) (by rw [HLL.out]; simp)
  dsimp only at y1 y2
  obtain ⟨cur, hcur⟩ : ∃ cur : List Value, w2.heap[g]? = some (.cells cur.toArray 43 (0, 0)) := by
    rcases hr2.2 with ⟨e, _⟩ | ⟨g', cap', cur, e, _, h3, _⟩
    · cases e
    · simp only [Value.slice.injEq, Option.some.injEq, Addr.mk.injEq, true_and, and_true] at e
      obtain ⟨rfl, rfl⟩ := e
      exact ⟨cur.toList, by simpa using h3⟩
  have z3 := frozen_of w2 g (l.length * 2 + 1) _ 43 hcur
  have hfin : (∃ qv', QV (w2.setCell ⟨g, l.length * 2 + 1, none⟩ (.int .u16 x)) B bq qv' (l ++ [(k, x)]) ∧ Nw w (.slice pe L.length ce) qv') ∧ KT (fun t => t = 66) B w (w2.setCell ⟨g, l.length * 2 + 1, none⟩ (.int .u16 x)) := by
    have hrx := own_set hr2 (l.length * 2 + 1) (by rw [en_len hK]; omega) (.int .u16 x)
    rw [HLL.out, enK_set, ← HLL.out] at hrx
    refine ⟨⟨.slice (some ⟨g, 0, none⟩) L.length cap, ⟨(setCell_other _ _ _ _ _ hgb.symm).trans hq2, ?_, hB, by simp; omega⟩, fun y e => .inr (by simp [Value.ownBlock] at e; subst e; exact hg)⟩, ?_⟩
    · have : (l ++ [(k, x)]).length = L.length := by rw [HLL.out]; simp
      unfold RowK
      rw [this]
      exact own_mono hrx (by omega)
    · have ka : KT (fun t => t = 66) B w w2 := by
        rw [← hw2]
        exact (KT.of hb1 (by omega)).trans (KT.at ((Tc.refl (fun y => y = bq) w1).setCell bq 0 rfl _) hk2 rfl hB)
      refine ⟨ka.bel.setCell (p := ⟨g, l.length * 2 + 1, none⟩) (by show B ≤ g; omega) _, fun i cs t y e n => ?_⟩
      have hi := lt_of e
      exact (setCell_other _ _ _ _ _ (by omega)).trans (ka.typ i cs t y e n)
  have HF := hid hfin
  clear hfin hr1 hg1 hb1 hs0 hr0 hb0 hr2 hcur hq2 hk2 hLen
  go_wp2
  go_end0
  exact ⟨rfl, HF.out⟩
theorem eneed (be B : Nat) (ev : Value) (D : List Int) (i o : Int) (w : World) (h : EV w B be ev D) : Calls Try.prog 34 #[.pointer (some ⟨be, 0, none⟩), .int .i64 i, .int .i64 o] w fun e w' => e = .returned (.int .i64 (need D.length i o)) ∧ w' = w := by
  obtain ⟨pe, ce, rfl⟩ := ex_slice h.row
  have c0 := cell_of w be 0 _ 63 _ h.blk rfl
  have hl : (D.length : Int) ≤ 256 := by have := h.len; omega
  clear h
  have hm : ∀ z : Int, max z 0 = if z < 0 then 0 else z := fun z => by split <;> omega
  unfold need
  rw [hm, hm]
  by_cases a1 : i < 0
  · by_cases a2 : o < 0
    · rw [if_pos a1, if_pos a2]
      have e1 : decide ((D.length : Int) < 0) = false := decide_eq_false (by omega)
      have e2 : IntKind.i64.wrap ((D.length : Int) - 0) = (D.length : Int) - 0 := i64_id _ (by omega) (by omega)
      have e3 : decide ((256 : Int) < 0) = false := decide_eq_false (by omega)
      have e5 : IntKind.i64.wrap ((D.length : Int) - 0 + 0) = (D.length : Int) - 0 + 0 := i64_id _ (by omega) (by omega)
      have e4 : decide ((256 : Int) < (D.length : Int) - 0 + 0) = false := decide_eq_false (by omega)
      rw [if_neg (by omega), if_neg (by omega)]
      go_enter Try.func34, Try.ntmps34
      go_wp2
      go_ret
      exact ⟨rfl, rfl⟩
    · rw [if_pos a1, if_neg a2]
      by_cases a4 : 256 < (D.length : Int) - 0 + o
      · by_cases a6 : 256 < o
        · have a5 := a4
          have e1 : decide ((D.length : Int) < 0) = false := decide_eq_false (by omega)
          have e2 : IntKind.i64.wrap ((D.length : Int) - 0) = (D.length : Int) - 0 := i64_id _ (by omega) (by omega)
          have e3 : decide ((256 : Int) < o) = true := decide_eq_true (by omega)
          rw [if_neg (by omega), if_pos (by omega)]
          go_enter Try.func34, Try.ntmps34
          go_wp2
          go_ret
          exact ⟨rfl, rfl⟩
        · have a5 := a4
          have e1 : decide ((D.length : Int) < 0) = false := decide_eq_false (by omega)
          have e2 : IntKind.i64.wrap ((D.length : Int) - 0) = (D.length : Int) - 0 := i64_id _ (by omega) (by omega)
          have e3 : decide ((256 : Int) < o) = false := decide_eq_false (by omega)
          have e5 : IntKind.i64.wrap ((D.length : Int) - 0 + o) = (D.length : Int) - 0 + o := i64_id _ (by omega) (by omega)
          have e4 : decide ((256 : Int) < (D.length : Int) - 0 + o) = true := decide_eq_true (by omega)
          rw [if_neg (by omega), if_pos (by omega)]
          go_enter Try.func34, Try.ntmps34
          go_wp2
          go_ret
          exact ⟨rfl, rfl⟩
      · have a5 := a4
        have e1 : decide ((D.length : Int) < 0) = false := decide_eq_false (by omega)
        have e2 : IntKind.i64.wrap ((D.length : Int) - 0) = (D.length : Int) - 0 := i64_id _ (by omega) (by omega)
        have e3 : decide ((256 : Int) < o) = false := decide_eq_false (by omega)
        have e5 : IntKind.i64.wrap ((D.length : Int) - 0 + o) = (D.length : Int) - 0 + o := i64_id _ (by omega) (by omega)
        have e4 : decide ((256 : Int) < (D.length : Int) - 0 + o) = false := decide_eq_false (by omega)
        rw [if_neg (by omega), if_neg (by omega)]
        go_enter Try.func34, Try.ntmps34
        go_wp2
        go_ret
        exact ⟨rfl, rfl⟩
  · by_cases a2 : o < 0
    · rw [if_neg a1, if_pos a2]
      by_cases a3 : (D.length : Int) < i
      · have a5 := a3
        have e1 : decide ((D.length : Int) < i) = true := decide_eq_true (by omega)
        rw [if_pos (by omega)]
        go_enter Try.func34, Try.ntmps34
        go_wp2
        go_ret
        exact ⟨rfl, rfl⟩
      · have a5 := a3
        have e1 : decide ((D.length : Int) < i) = false := decide_eq_false (by omega)
        have e2 : IntKind.i64.wrap ((D.length : Int) - i) = (D.length : Int) - i := i64_id _ (by omega) (by omega)
        have e3 : decide ((256 : Int) < 0) = false := decide_eq_false (by omega)
        have e5 : IntKind.i64.wrap ((D.length : Int) - i + 0) = (D.length : Int) - i + 0 := i64_id _ (by omega) (by omega)
        have e4 : decide ((256 : Int) < (D.length : Int) - i + 0) = false := decide_eq_false (by omega)
        rw [if_neg (by omega), if_neg (by omega)]
        go_enter Try.func34, Try.ntmps34
        go_wp2
        go_ret
        exact ⟨rfl, rfl⟩
    · rw [if_neg a1, if_neg a2]
      by_cases a3 : (D.length : Int) < i
      · have a5 := a3
        have e1 : decide ((D.length : Int) < i) = true := decide_eq_true (by omega)
        rw [if_pos (by omega)]
        go_enter Try.func34, Try.ntmps34
        go_wp2
        go_ret
        exact ⟨rfl, rfl⟩
      · have a7 := a3
        by_cases a4 : 256 < (D.length : Int) - i + o
        · by_cases a6 : 256 < o
          · have a5 := a4
            have e1 : decide ((D.length : Int) < i) = false := decide_eq_false (by omega)
            have e2 : IntKind.i64.wrap ((D.length : Int) - i) = (D.length : Int) - i := i64_id _ (by omega) (by omega)
            have e3 : decide ((256 : Int) < o) = true := decide_eq_true (by omega)
            rw [if_neg (by omega), if_pos (by omega)]
            go_enter Try.func34, Try.ntmps34
            go_wp2
            go_ret
            exact ⟨rfl, rfl⟩
          · have a5 := a4
            have e1 : decide ((D.length : Int) < i) = false := decide_eq_false (by omega)
            have e2 : IntKind.i64.wrap ((D.length : Int) - i) = (D.length : Int) - i := i64_id _ (by omega) (by omega)
            have e3 : decide ((256 : Int) < o) = false := decide_eq_false (by omega)
            have e5 : IntKind.i64.wrap ((D.length : Int) - i + o) = (D.length : Int) - i + o := i64_id _ (by omega) (by omega)
            have e4 : decide ((256 : Int) < (D.length : Int) - i + o) = true := decide_eq_true (by omega)
            rw [if_neg (by omega), if_pos (by omega)]
            go_enter Try.func34, Try.ntmps34
            go_wp2
            go_ret
            exact ⟨rfl, rfl⟩
        · have a5 := a4
          have e1 : decide ((D.length : Int) < i) = false := decide_eq_false (by omega)
          have e2 : IntKind.i64.wrap ((D.length : Int) - i) = (D.length : Int) - i := i64_id _ (by omega) (by omega)
          have e3 : decide ((256 : Int) < o) = false := decide_eq_false (by omega)
          have e5 : IntKind.i64.wrap ((D.length : Int) - i + o) = (D.length : Int) - i + o := i64_id _ (by omega) (by omega)
          have e4 : decide ((256 : Int) < (D.length : Int) - i + o) = false := decide_eq_false (by omega)
          rw [if_neg (by omega), if_neg (by omega)]
          go_enter Try.func34, Try.ntmps34
          go_wp2
          go_ret
          exact ⟨rfl, rfl⟩
end Go.Proofs.Ytcnhfgoflfnocaa
