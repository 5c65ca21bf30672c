import Derived.Test.YtgponcjjnjpfkabGreatG5
import Derived.BigQuiet
import Derived.Deep.RegionHeld
import Derived.Deep.OwnRows
import Derived.Laws.OwnMore
/-! The reference's data stack. -/
namespace Go.Proofs.YtgponcjjnjpfkabGreat.S
open Go.RowKit
open Go.Proofs
set_option linter.unusedVariables false
set_option linter.unusedSimpArgs false
/-- Nothing below B is touched, and of what lies above only blocks of these types. -/
structure KT (S : TypeId → Prop) (B : Nat) (W W' : World) : Prop where
  bel : Below B W W'
  typ : ∀ (k : Nat) c t x, W.heap[k]? = some (.cells c t x) → ¬ S t → W'.heap[k]? = some (.cells c t x)
theorem KT.refl (S : TypeId → Prop) (B : Nat) (W : World) : KT S B W W := ⟨Below.refl _ _, fun _ _ _ _ h _ => h⟩
theorem KT.trans {S : TypeId → Prop} {B : Nat} {a b c : World} (h : KT S B a b) (k : KT S B b c) : KT S B a c := ⟨h.bel.trans k.bel, fun i cs t x e n => k.typ i cs t x (h.typ i cs t x e n) n⟩
theorem KT.mono {S T : TypeId → Prop} {B : Nat} {a b : World} (h : KT S B a b) (k : ∀ t, S t → T t) : KT T B a b := ⟨h.bel, fun i cs t x e n => h.typ i cs t x e fun s => n (k t s)⟩
theorem KT.of {S : TypeId → Prop} {B : Nat} {a b : World} (h : Below a.heap.size a b) (hB : B ≤ a.heap.size) : KT S B a b := ⟨h.mono hB, fun i cs t x e _ => (h.block i (lt_of e)).trans e⟩
theorem KT.at {S : TypeId → Prop} {B b : Nat} {W W' : World} {c : Array Value} {t : TypeId} {x : Nat × Nat} (h : At b W W') (hb : W.heap[b]? = some (.cells c t x)) (hS : S t) (hB : B ≤ b) : KT S B W W' :=
  ⟨h.below hB (by have := lt_of hb; omega), fun i cs t' x' e n => (h.block i (lt_of e) (by rintro rfl; rw [hb] at e; injection e with e; injection e with e1 e2 e3; subst e2; exact n hS)).trans e⟩
theorem KT.own {S : TypeId → Prop} {B : Nat} {W W' : World} (h : KT S B W W') {B' : Nat} {e : TypeId} {size : Nat} {v : Value} {n : Nat} {xs : List Value} (ho : W.ownsRow B' e size v n xs) (he : ¬ S e) : W'.ownsRow B' e size v n xs := by
  refine ⟨ho.1, ?_⟩
  rcases ho.2 with ho | ⟨g, cap, cur, rfl, h2, h3, h4⟩
  · exact .inl ho
  · exact .inr ⟨g, cap, cur, rfl, h2, h.typ _ _ _ _ h3 he, h4⟩
theorem At.drew {b : Nat} {W W' : World} (h : At b W W') : At b W W'.drew := Tc.drew h
/-- The reference's data stack. -/
structure EV (W : World) (B be : Nat) (ev : Value) (D : List Int) : Prop where
  blk : W.heap[be]? = some (.cells [ev].toArray 78 (0, 0))
  row : RowU W B ev D
  hb : B ≤ be
  len : D.length ≤ 256
theorem EV.kt {S : TypeId → Prop} {B0 : Nat} {W W' : World} {B be : Nat} {ev : Value} {D : List Int} (h : EV W B be ev D) (k : KT S B0 W W') (h1 : ¬ S 78) (h2 : ¬ S 31) : EV W' B be ev D :=
  ⟨k.typ _ _ _ _ h.blk h1, k.own h.row h2, h.hb, h.len⟩
/-- The new list lies where the old one lay, or in new memory. -/
def Nw (w : World) (v v' : Value) : Prop := ∀ g, v'.ownBlock = some g → v.ownBlock = some g ∨ w.heap.size ≤ g
/-- An own row cut to its beginning. -/
theorem own_cut {W : World} {B : Nat} {e : TypeId} {size : Nat} {g n cap : Nat} {xs : List Value} (h : W.ownsRow B e size (.slice (some ⟨g, 0, none⟩) n cap) n xs) (m : Nat) (hm : m ≤ n) : W.ownsRow B e size (.slice (some ⟨g, 0, none⟩) m cap) m (xs.take (m * size)) := by
  rcases h.2 with ⟨h, _⟩ | ⟨g', cap', cur, h1, h2, h3, h4, h5, h6, h7⟩
  · cases h
  · simp only [Value.slice.injEq, Option.some.injEq, Addr.mk.injEq, true_and, and_true] at h1
    obtain ⟨rfl, rfl⟩ := h1
    have hl := h.1
    have hms : m * size ≤ n * size := Nat.mul_le_mul_right _ hm
    refine ⟨by rw [List.length_take, hl]; omega, .inr ⟨g, cap, cur, rfl, h2, h3, by omega, h5, h6, ?_⟩⟩
    rw [← h7, List.take_take, Nat.min_eq_left hms]
theorem rowU_pos {W : World} {B : Nat} {v : Value} {l : List Int} (h : RowU W B v l) (h0 : 0 < l.length) : ∃ g cap, v = .slice (some ⟨g, 0, none⟩) l.length cap ∧ B ≤ g ∧ l.length ≤ cap := by
  rcases h.2 with ⟨_, h⟩ | ⟨g, cap, cur, h1, h2, h3, h4, _⟩
  · omega
  · exact ⟨g, cap, h1, h2, h4⟩
theorem ex_slice {W : World} {B : Nat} {e : TypeId} {size : Nat} {v : Value} {n : Nat} {xs : List Value} (h : W.ownsRow B e size v n xs) : ∃ p c, v = .slice p n c := by
  rcases h.2 with ⟨rfl, h'⟩ | ⟨g, cap, cur, h1, _⟩
  · exact ⟨none, 0, by rw [h']⟩
  · exact ⟨_, _, h1⟩
theorem own_ne {W : World} {B : Nat} {e : TypeId} {size : Nat} {v : Value} {n : Nat} {xs : List Value} (h : W.ownsRow B e size v n xs) {b : Nat} {c : Array Value} {t : TypeId} {x : Nat × Nat} (hb : W.heap[b]? = some (.cells c t x)) (ht : t ≠ e) : ∀ g, v.ownBlock = some g → g ≠ b := by
  rcases h.2 with ⟨rfl, _⟩ | ⟨g', cap, cur, rfl, _, h3, _⟩
  · intro g e; simp [Value.ownBlock] at e
  · intro g e
    simp [Value.ownBlock] at e
    subst e
    rintro rfl
    rw [hb] at h3
    injection h3 with h3
    injection h3 with _ h3
    exact ht h3
set_option maxHeartbeats 1000000
set_option maxRecDepth 100000
theorem epush_no (be B : Nat) (ev : Value) (D x : List Int) (p : Option Addr) (c : Nat) (w : World) (h : EV w B be ev D) (hl : 256 < D.length + x.length) (hx : x.length ≤ room) :
    Calls Tryz.prog 9 #[.pointer (some ⟨be, 0, none⟩), .slice p x.length c] w fun e w' => e = .returned (.int .i64 2) ∧ w' = w := by
  obtain ⟨pe, ce, rfl⟩ := ex_slice h.row
  have c0 := cell_of w be 0 _ 78 _ h.blk rfl
  have hd := h.len
  unfold room at hx
  have e1 : IntKind.i64.wrap ((D.length : Int) + (x.length : Int)) = (D.length : Int) + (x.length : Int) := i64_id _ (by omega) (by omega)
  have e2 : decide ((256 : Int) < (D.length : Int) + (x.length : Int)) = true := decide_eq_true (by omega)
  clear h
  go_enter Tryz.func9, Tryz.ntmps9
  go_wp2
  go_ret
  exact ⟨rfl, rfl⟩
theorem epush_yes (be B : Nat) (ev : Value) (D x : List Int) (v : Value) (w : World) (h : EV w B be ev D) (hx : Ls eU 1 w v x) (hl : D.length + x.length ≤ 256) :
    Calls Tryz.prog 9 #[.pointer (some ⟨be, 0, none⟩), v] w fun e w' => e = .returned (.int .i64 0) ∧ (∃ ev', EV w' B be ev' (D ++ x) ∧ Nw w ev ev') ∧ KT (fun t => t = 78) B w w' := by
  obtain ⟨px, cx, rfl, _, _⟩ := hx.ex
  obtain ⟨pe, ce, rfl⟩ := ex_slice h.row
  have c0 := cell_of w be 0 _ 78 _ h.blk rfl
  have hbe := lt_of h.blk
  have hB := h.hb
  have e1 : IntKind.i64.wrap ((D.length : Int) + (x.length : Int)) = (D.length : Int) + (x.length : Int) := i64_id _ (by omega) (by omega)
  have e2 : decide ((256 : Int) < (D.length : Int) + (x.length : Int)) = false := decide_eq_false (by omega)
  have hr0 := own_empty w 31 1
  have hb0 : Below w.heap.size w (w.alloc (.cells #[] 31)) := (Below.refl _ _).alloc (Nat.le_refl _) _
  have hs0 := (h.row.ls.below hb0).cs hU (by omega) oneU
  have c1 : (w.alloc (.cells #[] 31)).cell? ⟨be, 0, none⟩ = some (.slice pe D.length ce) := (World.cell?_of_block (w := w) (Below.heap_alloc w _ be hbe)).trans c0
  have HX := hid hx
  have HE := hid h
  clear hx h
  go_enter Tryz.func9, Tryz.ntmps9
  go_wp2_with (first | (at_builtin; refine wpList_append_row _ rfl _ _ 22 31 _ 1 2 Tryz.underlying22 info32 rfl (by decide) rfl w.heap.size _ 0 [] rfl hr0 _ D.length (en eU D) rfl hs0 (by unfold room; omega) (by unfold maxLen; omega) hb0.size ?_))
  intro v1 w1 hr1 hg1
  have hb1 : Below w.heap.size w w1 := hg1.belowAll (fun g e => (hr0.lt g e).1) hb0 (Nat.le_refl _)
  have hs1 := (HX.out.below hb1).cs hU (by omega) oneU
  replace hr1 : w1.ownsRow w.heap.size 31 1 v1 D.length (en eU D) := by simpa using hr1
  have HG1 := hid hg1
  clear hr0 hs0 hg1 hb0
  go_wp2_with (first | (at_builtin; refine wpList_append_row _ rfl _ _ 22 31 _ 1 2 Tryz.underlying22 info32 rfl (by decide) rfl w.heap.size _ D.length (en eU D) rfl hr1 _ x.length (en eU x) rfl hs1 (by unfold room; omega) (by unfold maxLen; omega) hb1.size ?_))
  intro v2 w2 hr2 hg2
  obtain ⟨pv2, cv2, rfl⟩ := ex_slice hr2
  have hb2 : Below w.heap.size w w2 := hg2.belowAll (fun g e => (hr1.lt g e).1) hb1 (Nat.le_refl _)
  have hk2 := (hb2.block be hbe).trans HE.out.blk
  have c2 := cell_of w2 be 0 _ 78 _ hk2 rfl
  have z2 := frozen_of w2 be 0 _ 78 hk2
  have hfin : (∃ ev', EV (w2.setCell ⟨be, 0, none⟩ (.slice pv2 (D.length + x.length) cv2)) B be ev' (D ++ x) ∧ Nw w (.slice pe D.length ce) ev') ∧ KT (fun t => t = 78) B w (w2.setCell ⟨be, 0, none⟩ (.slice pv2 (D.length + x.length) cv2)) := by
    have hne : ∀ g, (Value.slice pv2 (D.length + x.length) cv2).ownBlock = some g → g ≠ be := fun g e => by have := (hr2.lt g e).1; omega
    refine ⟨⟨.slice pv2 (D.length + x.length) cv2, ⟨?_, ?_, hB, by simp; omega⟩, fun g e => .inr (hr2.lt g e).1⟩, ?_⟩
    · rw [setCell_heap w2 be 0 _ 78 _ hk2]; rfl
    · have : RowU w2 w.heap.size (.slice pv2 (D.length + x.length) cv2) (D ++ x) := by simpa [RowU, en_append] using hr2
      exact own_mono (own_kept this fun g e _ => setCell_other _ _ _ _ _ (hne g e)) (by omega)
    · exact (KT.of hb2 (by omega)).trans (KT.at ((Tc.refl (fun k => k = be) w2).setCell be 0 rfl (.slice pv2 (D.length + x.length) cv2)) hk2 rfl hB)
  have HF := hid hfin
  clear hfin hr1 hr2 hg2 hb1 hb2 hs1 hk2
  go_wp2
  go_ret
  exact ⟨rfl, HF.out⟩
end Go.Proofs.YtgponcjjnjpfkabGreat.S
/-! The reference's return stack; its Need. -/
namespace Go.Proofs.YtgponcjjnjpfkabGreat.S
open Go.RowKit
open Go.Proofs
set_option linter.unusedVariables false
set_option linter.unusedSimpArgs false
/-- The reference's return stack. -/
structure QV (W : World) (B bq : Nat) (qv : Value) (D : List (Int × Int)) : Prop where
  blk : W.heap[bq]? = some (.cells [qv].toArray 80 (0, 0))
  row : RowK W B qv D
  hb : B ≤ bq
  len : D.length ≤ 128
theorem QV.kt {S : TypeId → Prop} {B0 : Nat} {W W' : World} {B bq : Nat} {qv : Value} {D : List (Int × Int)} (h : QV W B bq qv D) (k : KT S B0 W W') (h1 : ¬ S 80) (h2 : ¬ S 68) : QV W' B bq qv D :=
  ⟨k.typ _ _ _ _ h.blk h1, k.own h.row h2, h.hb, h.len⟩
theorem rowK_pos {W : World} {B : Nat} {v : Value} {l : List (Int × Int)} (h : RowK W B v l) (h0 : 0 < l.length) : ∃ g cap, v = .slice (some ⟨g, 0, none⟩) l.length cap ∧ B ≤ g ∧ l.length ≤ cap := by
  rcases h.2 with ⟨_, h⟩ | ⟨g, cap, cur, h1, h2, h3, h4, _⟩
  · omega
  · exact ⟨g, cap, h1, h2, h4⟩
theorem rowK_get {W : World} {B g cap : Nat} {l : List (Int × Int)} (h : RowK W B (.slice (some ⟨g, 0, none⟩) l.length cap) l) (i : Nat) (a : Int × Int) (ha : l[i]? = some a) : W.cell? ⟨g, i * 2, none⟩ = some (.int .i64 a.1) ∧ W.cell? ⟨g, i * 2 + 1, none⟩ = some (.int .u16 a.2) := by
  rcases h.ls with ⟨e, _⟩ | ⟨x, c, e, _, hs⟩
  · cases e
  · simp only [Value.slice.injEq, true_and] at e
    obtain ⟨e, rfl⟩ := e
    obtain ⟨b, o, e1, e2, e3⟩ := hs.k i a ha
    rw [← e] at e1
    simp only [Option.some.injEq, Addr.mk.injEq] at e1
    obtain ⟨rfl, rfl, _⟩ := e1
    rw [Nat.zero_add] at e2 e3
    exact ⟨e2, e3⟩
/-- An own row with one cell set. -/
theorem own_set {W : World} {B : Nat} {e : TypeId} {size g n cap : Nat} {xs : List Value} (h : W.ownsRow B e size (.slice (some ⟨g, 0, none⟩) n cap) n xs) (i : Nat) (hi : i < xs.length) (u : Value) : (W.setCell ⟨g, i, none⟩ u).ownsRow B e size (.slice (some ⟨g, 0, none⟩) n cap) n (xs.set i u) := by
  rcases h.2 with ⟨h, _⟩ | ⟨g', cap', cur, h1, h2, h3, h4, h5, h6, h7⟩
  · cases h
  · simp only [Value.slice.injEq, Option.some.injEq, Addr.mk.injEq, true_and, and_true] at h1
    obtain ⟨rfl, rfl⟩ := h1
    obtain ⟨cl⟩ := cur
    have hx : xs.length = n * size := h.1
    refine ⟨by rw [List.length_set]; exact hx, .inr ⟨g, cap, (cl.set i u).toArray, rfl, h2, setCell_heap W g i cl e u h3, h4, h5, ?_, ?_⟩⟩
    · simpa using h6
    · simp only at h7 ⊢
      rw [← h7, List.take_set]
theorem enK_set (T : List (Int × Int)) (k v x : Int) : (en eK (T ++ [(k, v)])).set (T.length * 2 + 1) (.int .u16 x) = en eK (T ++ [(k, x)]) := by
  have e2 : (en eK T).length = T.length * 2 := by rw [en_len hK]
  rw [en_append, en_append, List.set_append_right _ _ (by omega), e2, show T.length * 2 + 1 - T.length * 2 = 1 by omega]
  rfl
set_option maxHeartbeats 1000000
set_option maxRecDepth 100000
theorem qpush_no (bq B : Nat) (qv : Value) (D x : List (Int × Int)) (p : Option Addr) (c : Nat) (w : World) (h : QV w B bq qv D) (hl : 128 < D.length + x.length) (hx : x.length ≤ room) :
    Calls Tryz.prog 11 #[.pointer (some ⟨bq, 0, none⟩), .slice p x.length c] w fun e w' => e = .returned (.int .i64 4) ∧ w' = w := by
  obtain ⟨pe, ce, rfl⟩ := ex_slice h.row
  have c0 := cell_of w bq 0 _ 80 _ h.blk rfl
  have hd := h.len
  unfold room at hx
  have e1 : IntKind.i64.wrap ((D.length : Int) + (x.length : Int)) = (D.length : Int) + (x.length : Int) := i64_id _ (by omega) (by omega)
  have e2 : decide ((128 : Int) < (D.length : Int) + (x.length : Int)) = true := decide_eq_true (by omega)
  clear h
  go_enter Tryz.func11, Tryz.ntmps11
  go_wp2
  go_ret
  exact ⟨rfl, rfl⟩
theorem qpush_yes (bq B : Nat) (qv : Value) (D x : List (Int × Int)) (v : Value) (w : World) (h : QV w B bq qv D) (hx : Ls eK 2 w v x) (hl : D.length + x.length ≤ 128) :
    Calls Tryz.prog 11 #[.pointer (some ⟨bq, 0, none⟩), v] w fun e w' => e = .returned (.int .i64 0) ∧ (∃ qv', QV w' B bq qv' (D ++ x) ∧ Nw w qv qv') ∧ KT (fun t => t = 80) B w w' := by
  obtain ⟨px, cx, rfl, _, _⟩ := hx.ex
  obtain ⟨pe, ce, rfl⟩ := ex_slice h.row
  have c0 := cell_of w bq 0 _ 80 _ h.blk rfl
  have hbe := lt_of h.blk
  have hB := h.hb
  have e1 : IntKind.i64.wrap ((D.length : Int) + (x.length : Int)) = (D.length : Int) + (x.length : Int) := i64_id _ (by omega) (by omega)
  have e2 : decide ((128 : Int) < (D.length : Int) + (x.length : Int)) = false := decide_eq_false (by omega)
  have hr0 := own_empty w 68 2
  have hb0 : Below w.heap.size w (w.alloc (.cells #[] 68)) := (Below.refl _ _).alloc (Nat.le_refl _) _
  have hs0 := (h.row.ls.below hb0).cs hK (by omega) oneK
  have c1 : (w.alloc (.cells #[] 68)).cell? ⟨bq, 0, none⟩ = some (.slice pe D.length ce) := (World.cell?_of_block (w := w) (Below.heap_alloc w _ bq hbe)).trans c0
  have HX := hid hx
  have HE := hid h
  clear hx h
  go_enter Tryz.func11, Tryz.ntmps11
  go_wp2_with (first | (at_builtin; refine wpList_append_row _ rfl _ _ 23 68 _ 2 16 Tryz.underlying23 info43 rfl (by decide) rfl w.heap.size _ 0 [] rfl hr0 _ D.length (en eK D) rfl hs0 (by unfold room; omega) (by unfold maxLen; omega) hb0.size ?_))
  intro v1 w1 hr1 hg1
  have hb1 : Below w.heap.size w w1 := hg1.belowAll (fun g e => (hr0.lt g e).1) hb0 (Nat.le_refl _)
  have hs1 := (HX.out.below hb1).cs hK (by omega) oneK
  replace hr1 : w1.ownsRow w.heap.size 68 2 v1 D.length (en eK D) := by simpa using hr1
  have HG1 := hid hg1
  clear hr0 hs0 hg1 hb0
  go_wp2_with (first | (at_builtin; refine wpList_append_row _ rfl _ _ 23 68 _ 2 16 Tryz.underlying23 info43 rfl (by decide) rfl w.heap.size _ D.length (en eK D) rfl hr1 _ x.length (en eK x) rfl hs1 (by unfold room; omega) (by unfold maxLen; omega) hb1.size ?_))
  intro v2 w2 hr2 hg2
  obtain ⟨pv2, cv2, rfl⟩ := ex_slice hr2
  have hb2 : Below w.heap.size w w2 := hg2.belowAll (fun g e => (hr1.lt g e).1) hb1 (Nat.le_refl _)
  have hk2 := (hb2.block bq hbe).trans HE.out.blk
  have c2 := cell_of w2 bq 0 _ 80 _ hk2 rfl
  have z2 := frozen_of w2 bq 0 _ 80 hk2
  have hfin : (∃ qv', QV (w2.setCell ⟨bq, 0, none⟩ (.slice pv2 (D.length + x.length) cv2)) B bq qv' (D ++ x) ∧ Nw w (.slice pe D.length ce) qv') ∧ KT (fun t => t = 80) B w (w2.setCell ⟨bq, 0, none⟩ (.slice pv2 (D.length + x.length) cv2)) := by
    have hne : ∀ g, (Value.slice pv2 (D.length + x.length) cv2).ownBlock = some g → g ≠ bq := fun g e => by have := (hr2.lt g e).1; omega
    refine ⟨⟨.slice pv2 (D.length + x.length) cv2, ⟨?_, ?_, hB, by simp; omega⟩, fun g e => .inr (hr2.lt g e).1⟩, ?_⟩
    · rw [setCell_heap w2 bq 0 _ 80 _ hk2]; rfl
    · have : RowK w2 w.heap.size (.slice pv2 (D.length + x.length) cv2) (D ++ x) := by simpa [RowK, en_append] using hr2
      exact own_mono (own_kept this fun g e _ => setCell_other _ _ _ _ _ (hne g e)) (by omega)
    · exact (KT.of hb2 (by omega)).trans (KT.at ((Tc.refl (fun k => k = bq) w2).setCell bq 0 rfl (.slice pv2 (D.length + x.length) cv2)) hk2 rfl hB)
  have HF := hid hfin
  clear hfin hr1 hr2 hg2 hb1 hb2 hs1 hk2
  go_wp2
  go_ret
  exact ⟨rfl, HF.out⟩
theorem qat_under (bq B : Nat) (qv : Value) (l : List (Int × Int)) (n kind : Int) (hn : n < 0 ∨ (l.length : Int) ≤ n) (w : World) (h : QV w B bq qv l) :
    Calls Tryz.prog 139 #[.pointer (some ⟨bq, 0, none⟩), .int .i64 n, .int .i64 kind] w fun e w' => e = .returned (.tuple #[.int .u16 0, .int .i64 3]) ∧ w' = w := by
  obtain ⟨pe, ce, rfl⟩ := ex_slice h.row
  have c0 := cell_of w bq 0 _ 80 _ h.blk rfl
  clear h
  by_cases a : n < 0
  · go_enter Tryz.func139, Tryz.ntmps139
    go_wp2
    go_ret2
    exact ⟨rfl, rfl⟩
  · have e1 : decide (n < 0) = false := decide_eq_false a
    have e2 : decide ((l.length : Int) ≤ n) = true := decide_eq_true (by omega)
    go_enter Tryz.func139, Tryz.ntmps139
    go_wp2
    go_ret2
    exact ⟨rfl, rfl⟩
theorem qat_in (bq B : Nat) (qv : Value) (l : List (Int × Int)) (i n : Nat) (hi : i + n + 1 = l.length) (k v : Int) (ha : l[i]? = some (k, v)) (kind : Int) (w : World) (h : QV w B bq qv l) :
    Calls Tryz.prog 139 #[.pointer (some ⟨bq, 0, none⟩), .int .i64 (n : Int), .int .i64 kind] w fun e w' => e = .returned (if k = kind then .tuple #[.int .u16 v, .int .i64 0] else .tuple #[.int .u16 0, .int .i64 5]) ∧ Below w.heap.size w w' := by
  have hl := h.len
  obtain ⟨g, cap, rfl, _, hcap⟩ := rowK_pos h.row (by omega)
  have c0 := cell_of w bq 0 _ 80 _ h.blk rfl
  obtain ⟨x1, x2⟩ := rowK_get h.row i (k, v) ha
  dsimp only at x1 x2
  have e1 : IntKind.i64.wrap ((l.length : Int) - 1) = (l.length : Int) - 1 := i64_id _ (by omega) (by omega)
  have e2 : IntKind.i64.wrap ((l.length : Int) - 1 - (n : Int)) = (i : Int) := by rw [i64_id _ (by omega) (by omega)]; omega
  have e3 : (i : Int) < (l.length : Int) := by omega
  have e4 : decide ((n : Int) < 0) = false := decide_eq_false (by omega)
  have e5 : decide ((l.length : Int) ≤ (n : Int)) = false := decide_eq_false (by omega)
  have hB : Below w.heap.size w (w.drew.alloc (.cells #[.int .i64 k, .int .u16 v] 68)) := ((Below.refl w.heap.size w).drew).alloc (Nat.le_refl _) _
  have hbq := lt_of h.blk
  have hgw : g < w.heap.size := World.block_lt_of_cell? w _ x1
  have sA : w.drew.cell? ⟨bq, 0, none⟩ = some (.slice (some ⟨g, 0, none⟩) l.length cap) ∧ w.drew.cell? ⟨g, i * 2, none⟩ = some (.int .i64 k) ∧ w.drew.cell? ⟨g, i * 2 + 1, none⟩ = some (.int .u16 v) := ⟨c0, x1, x2⟩
  have sK : ∀ W : World, (∀ j, j < w.heap.size → W.heap[j]? = w.heap[j]?) → W.cell? ⟨bq, 0, none⟩ = some (.slice (some ⟨g, 0, none⟩) l.length cap) ∧ W.cell? ⟨g, i * 2, none⟩ = some (.int .i64 k) ∧ W.cell? ⟨g, i * 2 + 1, none⟩ = some (.int .u16 v) := fun W hj =>
    ⟨(World.cell?_of_block (w := w) (hj bq hbq)).trans c0, (World.cell?_of_block (w := w) (hj g hgw)).trans x1, (World.cell?_of_block (w := w) (hj g hgw)).trans x2⟩
  have sB : ∀ o, (w.drew.alloc o).cell? ⟨bq, 0, none⟩ = some (.slice (some ⟨g, 0, none⟩) l.length cap) ∧ (w.drew.alloc o).cell? ⟨g, i * 2, none⟩ = some (.int .i64 k) ∧ (w.drew.alloc o).cell? ⟨g, i * 2 + 1, none⟩ = some (.int .u16 v) := fun o => sK _ fun j hj => Below.heap_alloc w.drew o j hj
  have sC : ∀ o, (w.alloc o).drew.cell? ⟨bq, 0, none⟩ = some (.slice (some ⟨g, 0, none⟩) l.length cap) ∧ (w.alloc o).drew.cell? ⟨g, i * 2, none⟩ = some (.int .i64 k) ∧ (w.alloc o).drew.cell? ⟨g, i * 2 + 1, none⟩ = some (.int .u16 v) := fun o => sK _ fun j hj => Below.heap_alloc w o j hj
  clear h ha hi sK
  generalize hN : (n : Int) = M at *
  clear hN
  by_cases hk : k = kind
  · subst hk
    rw [if_pos rfl]
    go_enter Tryz.func139, Tryz.ntmps139
    go_wp2_with fail
    go_region_held (fun W => W.cell? ⟨bq, 0, none⟩ = some (.slice (some ⟨g, 0, none⟩) l.length cap) ∧ W.cell? ⟨g, i * 2, none⟩ = some (.int .i64 k) ∧ W.cell? ⟨g, i * 2 + 1, none⟩ = some (.int .u16 v))
      (first | (with_reducible exact sA) | (with_reducible exact sB _) | (with_reducible exact sC _))
      (fail)
    all_goals
      go_wp2
      go_ret2
      exact ⟨rfl, hB⟩
  · rw [if_neg hk]
    have e6 : (k != kind) = true := by simp [hk]
    go_enter Tryz.func139, Tryz.ntmps139
    go_wp2_with fail
    go_region_held (fun W => W.cell? ⟨bq, 0, none⟩ = some (.slice (some ⟨g, 0, none⟩) l.length cap) ∧ W.cell? ⟨g, i * 2, none⟩ = some (.int .i64 k) ∧ W.cell? ⟨g, i * 2 + 1, none⟩ = some (.int .u16 v))
      (first | (with_reducible exact sA) | (with_reducible exact sB _) | (with_reducible exact sC _))
      (fail)
    all_goals
      go_wp2
      go_ret2
      exact ⟨rfl, hB⟩
theorem qpop_empty (bq B : Nat) (qv : Value) (kind : Int) (w : World) (h : QV w B bq qv []) : Calls Tryz.prog 87 #[.pointer (some ⟨bq, 0, none⟩), .int .i64 kind] w fun e w' => e = .returned (.tuple #[.int .u16 0, .int .i64 3]) ∧ w' = w := by
  have ha := qat_under bq B qv [] 0 kind (.inr (by simp)) w h
  clear h
  go_enter Tryz.func87, Tryz.ntmps87
  go_wp2_with fail
  refine ha.mono ?_
  rintro e w1 ⟨rfl, rfl⟩
  go_wp2
  go_ret2
  exact ⟨rfl, rfl⟩
theorem qpop_kind (bq B : Nat) (qv : Value) (l : List (Int × Int)) (k v kind : Int) (hne : k ≠ kind) (w : World) (h : QV w B bq qv (l ++ [(k, v)])) : Calls Tryz.prog 87 #[.pointer (some ⟨bq, 0, none⟩), .int .i64 kind] w fun e w' => e = .returned (.tuple #[.int .u16 0, .int .i64 5]) ∧ Below w.heap.size w w' := by
  have ha := qat_in bq B qv _ l.length 0 (by simp) k v (by simp) kind w h
  rw [if_neg hne] at ha
  clear h
  go_enter Tryz.func87, Tryz.ntmps87
  go_wp2_with fail
  refine ha.mono ?_
  rintro e w1 ⟨rfl, hb⟩
  have HB := hid hb
  clear hb
  go_wp2
  go_ret2
  exact ⟨rfl, HB.out⟩
theorem qpop_ok (bq B : Nat) (qv : Value) (l : List (Int × Int)) (k v : Int) (w : World) (h : QV w B bq qv (l ++ [(k, v)])) : Calls Tryz.prog 87 #[.pointer (some ⟨bq, 0, none⟩), .int .i64 k] w fun e w' => e = .returned (.tuple #[.int .u16 v, .int .i64 0]) ∧ (∃ qv', QV w' B bq qv' l ∧ Nw w qv qv') ∧ KT (fun t => t = 80) B w w' := by
  have hlen : (l ++ [(k, v)]).length = l.length + 1 := by simp
  obtain ⟨g, cap, rfl, hg, hcap⟩ := rowK_pos h.row (by omega)
  have hl := h.len
  have hB := h.hb
  have ha := qat_in bq B _ _ l.length 0 (by simp) k v (by simp) k w h
  rw [if_pos rfl] at ha
  have hfin : ∀ w1, Below w.heap.size w w1 → (w1.cell? ⟨bq, 0, none⟩ = some (.slice (some ⟨g, 0, none⟩) (l.length + 1) cap) ∧ w1.frozen? ⟨bq, 0, none⟩ = false) ∧ (∃ qv', QV (w1.drew.setCell ⟨bq, 0, none⟩ (.slice (some ⟨g, 0, none⟩) l.length cap)) B bq qv' l ∧ Nw w (.slice (some ⟨g, 0, none⟩) (l ++ [(k, v)]).length cap) qv') ∧ KT (fun t => t = 80) B w (w1.drew.setCell ⟨bq, 0, none⟩ (.slice (some ⟨g, 0, none⟩) l.length cap)) := by
    intro w1 hb1
    have k1 : KT (fun t => t = 80) B w w1 := KT.of hb1 (by have := lt_of h.blk; omega)
    have hq : w1.heap[bq]? = _ := (hb1.block bq (lt_of h.blk)).trans h.blk
    have hrw : RowK w1 B (.slice (some ⟨g, 0, none⟩) (l ++ [(k, v)]).length cap) (l ++ [(k, v)]) := own_kept h.row fun x _ hx => hb1.block x hx
    have hrow : RowK w1 B (.slice (some ⟨g, 0, none⟩) l.length cap) l := by
      have := own_cut hrw l.length (by omega)
      rw [show (en eK (l ++ [(k, v)])).take (l.length * 2) = en eK l by rw [en_append, List.take_left' (by rw [en_len hK])]] at this
      exact this
    have hne : g ≠ bq := own_ne h.row h.blk (by decide) g rfl
    refine ⟨⟨by have := cell_of w1 bq 0 _ 80 _ hq rfl; rwa [hlen] at this, frozen_of w1 bq 0 _ 80 hq⟩, ⟨.slice (some ⟨g, 0, none⟩) l.length cap, ⟨?_, ?_, hB, by omega⟩, fun _ e => .inl e⟩, ?_⟩
    · rw [setCell_heap w1.drew bq 0 _ 80 _ hq]; rfl
    · exact own_kept (W := w1) hrow fun x e _ => setCell_other w1.drew _ _ _ _ (by simp [Value.ownBlock] at e; subst e; exact hne)
    · exact k1.trans (KT.at (((Tc.refl (fun x => x = bq) w1).drew).setCell bq 0 rfl _) hq rfl hB)
  have e1 : IntKind.i64.wrap (((l.length + 1 : Nat) : Int) - 1) = (l.length : Int) := by rw [i64_id _ (by omega) (by omega)]; omega
  have e4 : l.length ≤ cap := by omega
  have HF := hid hfin
  clear hfin h
  go_enter Tryz.func87, Tryz.ntmps87
  go_wp2_with fail
  refine ha.mono ?_
  rintro e w1 ⟨rfl, hb⟩
  obtain ⟨⟨c1, z1⟩, f2⟩ := HF.out w1 hb
  have F2 := hid f2
  clear hb ha HF f2
  go_wp2_with fail
  go_region
  all_goals
    go_wp2
    go_ret2
    exact ⟨rfl, F2.out⟩
theorem eneed (be B : Nat) (ev : Value) (D : List Int) (i o : Int) (w : World) (h : EV w B be ev D) : Calls Tryz.prog 82 #[.pointer (some ⟨be, 0, none⟩), .int .i64 i, .int .i64 o] w fun e w' => e = .returned (.int .i64 (need D.length i o)) ∧ w' = w := by
  obtain ⟨pe, ce, rfl⟩ := ex_slice h.row
  have c0 := cell_of w be 0 _ 78 _ h.blk rfl
  have hl : (D.length : Int) ≤ 256 := by have := h.len; omega
  clear h
  have hm : ∀ z : Int, max z 0 = if z < 0 then 0 else z := fun z => by split <;> omega
  unfold need
  rw [hm, hm]
  by_cases a1 : i < 0
  · by_cases a2 : o < 0
    · rw [if_pos a1, if_pos a2]
      have e1 : decide ((D.length : Int) < 0) = false := decide_eq_false (by omega)
      have e2 : IntKind.i64.wrap ((D.length : Int) - 0) = (D.length : Int) - 0 := i64_id _ (by omega) (by omega)
      have e3 : decide ((256 : Int) < 0) = false := decide_eq_false (by omega)
      have e5 : IntKind.i64.wrap ((D.length : Int) - 0 + 0) = (D.length : Int) - 0 + 0 := i64_id _ (by omega) (by omega)
      have e4 : decide ((256 : Int) < (D.length : Int) - 0 + 0) = false := decide_eq_false (by omega)
      rw [if_neg (by omega), if_neg (by omega)]
      go_enter Tryz.func82, Tryz.ntmps82
      go_wp2
      go_ret
      exact ⟨rfl, rfl⟩
    · rw [if_pos a1, if_neg a2]
      by_cases a4 : 256 < (D.length : Int) - 0 + o
      · by_cases a6 : 256 < o
        · have a5 := a4
          have e1 : decide ((D.length : Int) < 0) = false := decide_eq_false (by omega)
          have e2 : IntKind.i64.wrap ((D.length : Int) - 0) = (D.length : Int) - 0 := i64_id _ (by omega) (by omega)
          have e3 : decide ((256 : Int) < o) = true := decide_eq_true (by omega)
          rw [if_neg (by omega), if_pos (by omega)]
          go_enter Tryz.func82, Tryz.ntmps82
          go_wp2
          go_ret
          exact ⟨rfl, rfl⟩
        · have a5 := a4
          have e1 : decide ((D.length : Int) < 0) = false := decide_eq_false (by omega)
          have e2 : IntKind.i64.wrap ((D.length : Int) - 0) = (D.length : Int) - 0 := i64_id _ (by omega) (by omega)
          have e3 : decide ((256 : Int) < o) = false := decide_eq_false (by omega)
          have e5 : IntKind.i64.wrap ((D.length : Int) - 0 + o) = (D.length : Int) - 0 + o := i64_id _ (by omega) (by omega)
          have e4 : decide ((256 : Int) < (D.length : Int) - 0 + o) = true := decide_eq_true (by omega)
          rw [if_neg (by omega), if_pos (by omega)]
          go_enter Tryz.func82, Tryz.ntmps82
          go_wp2
          go_ret
          exact ⟨rfl, rfl⟩
      · have a5 := a4
        have e1 : decide ((D.length : Int) < 0) = false := decide_eq_false (by omega)
        have e2 : IntKind.i64.wrap ((D.length : Int) - 0) = (D.length : Int) - 0 := i64_id _ (by omega) (by omega)
        have e3 : decide ((256 : Int) < o) = false := decide_eq_false (by omega)
        have e5 : IntKind.i64.wrap ((D.length : Int) - 0 + o) = (D.length : Int) - 0 + o := i64_id _ (by omega) (by omega)
        have e4 : decide ((256 : Int) < (D.length : Int) - 0 + o) = false := decide_eq_false (by omega)
        rw [if_neg (by omega), if_neg (by omega)]
        go_enter Tryz.func82, Tryz.ntmps82
        go_wp2
        go_ret
        exact ⟨rfl, rfl⟩
  · by_cases a2 : o < 0
    · rw [if_neg a1, if_pos a2]
      by_cases a3 : (D.length : Int) < i
      · have a5 := a3
        have e1 : decide ((D.length : Int) < i) = true := decide_eq_true (by omega)
        rw [if_pos (by omega)]
        go_enter Tryz.func82, Tryz.ntmps82
        go_wp2
        go_ret
        exact ⟨rfl, rfl⟩
      · have a5 := a3
        have e1 : decide ((D.length : Int) < i) = false := decide_eq_false (by omega)
        have e2 : IntKind.i64.wrap ((D.length : Int) - i) = (D.length : Int) - i := i64_id _ (by omega) (by omega)
        have e3 : decide ((256 : Int) < 0) = false := decide_eq_false (by omega)
        have e5 : IntKind.i64.wrap ((D.length : Int) - i + 0) = (D.length : Int) - i + 0 := i64_id _ (by omega) (by omega)
        have e4 : decide ((256 : Int) < (D.length : Int) - i + 0) = false := decide_eq_false (by omega)
        rw [if_neg (by omega), if_neg (by omega)]
        go_enter Tryz.func82, Tryz.ntmps82
        go_wp2
        go_ret
        exact ⟨rfl, rfl⟩
    · rw [if_neg a1, if_neg a2]
      by_cases a3 : (D.length : Int) < i
      · have a5 := a3
        have e1 : decide ((D.length : Int) < i) = true := decide_eq_true (by omega)
        rw [if_pos (by omega)]
        go_enter Tryz.func82, Tryz.ntmps82
        go_wp2
        go_ret
        exact ⟨rfl, rfl⟩
      · have a7 := a3
        by_cases a4 : 256 < (D.length : Int) - i + o
        · by_cases a6 : 256 < o
          · have a5 := a4
            have e1 : decide ((D.length : Int) < i) = false := decide_eq_false (by omega)
            have e2 : IntKind.i64.wrap ((D.length : Int) - i) = (D.length : Int) - i := i64_id _ (by omega) (by omega)
            have e3 : decide ((256 : Int) < o) = true := decide_eq_true (by omega)
            rw [if_neg (by omega), if_pos (by omega)]
            go_enter Tryz.func82, Tryz.ntmps82
            go_wp2
            go_ret
            exact ⟨rfl, rfl⟩
          · have a5 := a4
            have e1 : decide ((D.length : Int) < i) = false := decide_eq_false (by omega)
            have e2 : IntKind.i64.wrap ((D.length : Int) - i) = (D.length : Int) - i := i64_id _ (by omega) (by omega)
            have e3 : decide ((256 : Int) < o) = false := decide_eq_false (by omega)
            have e5 : IntKind.i64.wrap ((D.length : Int) - i + o) = (D.length : Int) - i + o := i64_id _ (by omega) (by omega)
            have e4 : decide ((256 : Int) < (D.length : Int) - i + o) = true := decide_eq_true (by omega)
            rw [if_neg (by omega), if_pos (by omega)]
            go_enter Tryz.func82, Tryz.ntmps82
            go_wp2
            go_ret
            exact ⟨rfl, rfl⟩
        · have a5 := a4
          have e1 : decide ((D.length : Int) < i) = false := decide_eq_false (by omega)
          have e2 : IntKind.i64.wrap ((D.length : Int) - i) = (D.length : Int) - i := i64_id _ (by omega) (by omega)
          have e3 : decide ((256 : Int) < o) = false := decide_eq_false (by omega)
          have e5 : IntKind.i64.wrap ((D.length : Int) - i + o) = (D.length : Int) - i + o := i64_id _ (by omega) (by omega)
          have e4 : decide ((256 : Int) < (D.length : Int) - i + o) = false := decide_eq_false (by omega)
          rw [if_neg (by omega), if_neg (by omega)]
          go_enter Tryz.func82, Tryz.ntmps82
          go_wp2
          go_ret
          exact ⟨rfl, rfl⟩
end Go.Proofs.YtgponcjjnjpfkabGreat.S
/-! bytes.Clone, slices.Clone, Tones, Screen; awake. -/
namespace Go.Proofs.YtgponcjjnjpfkabGreat.M
open Go.RowKit
open Go.Proofs
set_option linter.unusedVariables false
set_option linter.unusedSimpArgs false
theorem Grew.belowAll {W W' : World} {v v' : Value} (h : Grew W W' v v') {N : Nat} (hB : ∀ g, v.ownBlock = some g → N ≤ g) {W0 : World} (h0 : Below N W0 W) (hN : N ≤ W0.heap.size) : Below N W0 W' :=
  h0.trans (h.below hB (Nat.le_trans hN h0.size))
theorem HasM.below {W W' : World} {F : Nat → Prop} {b : Nat} {m : MS} (h : HasM W F b m) (k : Below W.heap.size W W') : HasM W' F b m := h.kept fun i hi _ => k.block i hi
theorem eql_nil (t e : TypeId) (ht : Tryz.prog.underlying t = some (.slice e)) (W : World) (p : Option Addr) (n c : Nat) : (binOp .eql t (.slice p n c) (.slice none 0 0)).run Tryz.prog W = .ok (.bool p.isNone) W := by
  have h : ∀ d : Nat, (Op.equalIn (d + 1) t (.slice p n c) (.slice none 0 0)).run Tryz.prog W = .ok p.isNone W := fun d => by
    cases p <;> simp [Op.equalIn, run_underlying ht]
  have h2 : (Op.equal t (.slice p n c) (.slice none 0 0)).run Tryz.prog W = .ok p.isNone W := h 9999
  simp [binOp, h2]
set_option maxHeartbeats 1000000
set_option maxRecDepth 100000
theorem clone_any (v : Value) (l : List UInt8) (hl : l.length ≤ room) (w : World) (h : Sl w v l) :
    Calls Tryz.prog 65 #[v] w fun e w' => ∃ u, e = .returned u ∧ Row w' w.heap.size u l ∧ Below w.heap.size w w' := by
  have h0 := h
  rcases h with ⟨rfl, rfl⟩ | ⟨x, c, rfl, _, hc⟩
  · have hn := fun (W : World) => eql_nil 51 5 Tryz.underlying51 W none 0 0
    go_enter Tryz.func65, Tryz.ntmps65
    go_wp2
    go_ret
    exact ⟨_, rfl, row_nil _ _, Below.refl _ _⟩
  · have hr0 : Row (w.alloc (.cells #[] 5)) w.heap.size (.slice (some ⟨w.heap.size, 0, none⟩) 0 0) [] := row_of_alloc w w.heap.size (Nat.le_refl _) [] (by simp)
    have hb0 : Below w.heap.size w (w.alloc (.cells #[] 5)) := (Below.refl _ _).alloc (Nat.le_refl _) _
    have hs0 := h0.below hb0
    have hn := fun (W : World) => eql_nil 51 5 Tryz.underlying51 W (some x) l.length c
    go_enter Tryz.func65, Tryz.ntmps65
    go_wp2_with (first | (at_builtin; refine wpList_append_bytes _ rfl _ _ rfl w.heap.size _ [] rfl hr0 _ l rfl hs0 (by simpa using hl) hb0.size ?_))
    intro v' w' hr hg
    go_wp2
    go_ret
    exact ⟨_, rfl, hr, hg.belowAll (fun g e => (hr0.lt g e).1) hb0 (Nat.le_refl _)⟩
/-- A list of tones in new memory. -/
def TRow (W : World) (B : Nat) (v : Value) (l : List (Int × Int × Int)) : Prop := W.ownsRow B 99 3 v l.length (tc l)
theorem TRow.cs {W : World} {B : Nat} {v : Value} {l : List (Int × Int × Int)} (h : TRow W B v l) : Cs W v 3 l.length (tc l) := by
  have h' := h
  rcases h.2 with ⟨rfl, e⟩ | ⟨g, cap, cur, rfl, _⟩
  · exact .inl ⟨rfl, e, by rw [List.eq_nil_of_length_eq_zero e]; rfl⟩
  · refine .inr ⟨_, cap, rfl, tc_len l, World.ownsRow.cells h' rfl, tc_one l⟩
theorem Cs.below {W W' : World} {u : Value} {s n : Nat} {xs : List Value} (h : Cs W u s n xs) (b : Below W.heap.size W W') : Cs W' u s n xs := by
  rcases h with h | ⟨ad, c, e1, e2, e3, e4⟩
  · exact .inl h
  · exact .inr ⟨ad, c, e1, e2, fun j v hj => by have e := e3 j v hj; rw [b.cell (World.block_lt_of_cell? W _ e)]; exact e, e4⟩
theorem cloneT_any (v : Value) (l : List (Int × Int × Int)) (hl : l.length ≤ 1000000) (w : World) (h : TRow w 0 v l) :
    Calls Tryz.prog 69 #[v] w fun e w' => ∃ u, e = .returned u ∧ TRow w' w.heap.size u l ∧ Below w.heap.size w w' := by
  have h0 := h
  rcases h.2 with ⟨rfl, e⟩ | ⟨g, cap, cur, rfl, _⟩
  · have hn := fun (W : World) => eql_nil 52 99 Tryz.underlying52 W none 0 0
    obtain rfl := List.eq_nil_of_length_eq_zero e
    go_enter Tryz.func69, Tryz.ntmps69
    go_wp2
    go_ret
    exact ⟨_, rfl, World.ownsRow_nil _ _ _ _, Below.refl _ _⟩
  · have hr0 : (w.alloc (.cells #[] 99)).ownsRow w.heap.size 99 3 (.slice (some ⟨w.heap.size, 0, none⟩) 0 0) 0 [] :=
      ⟨rfl, .inr ⟨w.heap.size, 0, #[], rfl, Nat.le_refl _, heap_alloc_new w _, Nat.le_refl _, by decide, by simp, by simp⟩⟩
    have hb0 : Below w.heap.size w (w.alloc (.cells #[] 99)) := (Below.refl _ _).alloc (Nat.le_refl _) _
    have hs0 := h0.cs.below hb0
    have hn := fun (W : World) => eql_nil 52 99 Tryz.underlying52 W (some ⟨g, 0, none⟩) l.length cap
    go_enter Tryz.func69, Tryz.ntmps69
    go_wp2_with (first | (at_builtin; refine wpList_append_row _ rfl _ _ 52 99 _ 3 16 Tryz.underlying52 info90 rfl (by decide) rfl w.heap.size _ 0 [] rfl hr0 _ l.length (tc l) rfl hs0 (by unfold room; omega) (by unfold maxLen; omega) hb0.size ?_))
    intro v' w' hr hg
    go_wp2
    go_ret
    refine ⟨_, rfl, ?_, hg.belowAll (fun g e => (hr0.lt g e).1) hb0 (Nat.le_refl _)⟩
    simpa [TRow] using hr
theorem tones_any (b : Nat) (w : World) {F : Nat → Prop} {m : MS} (hm : HasM w F b m) (ht : m.tones.length ≤ 1000000) :
    Calls Tryz.prog 41 #[.pointer (some ⟨b, 0, none⟩)] w fun e w' => ∃ u, e = .returned u ∧ TRow w' w.heap.size u m.tones ∧ Below w.heap.size w w' := by
  obtain ⟨mb, L, tv, hm⟩ := hm
  have c6 := cell_of w b (19457 + 6) _ 104 _ hm.blk ((mcells_reg mb m tv hm.wf 6).trans rfl)
  simp only [Nat.reduceAdd] at c6
  have hc := cloneT_any tv m.tones ht w hm.tones
  go_enter Tryz.func41, Tryz.ntmps41
  go_wp2_with fail
  refine hc.mono ?_
  rintro e w1 ⟨u, rfl, h1, h2⟩
  go_wp2
  go_ret
  exact ⟨_, rfl, h1, h2⟩
theorem tones_nil (w : World) : Calls Tryz.prog 41 #[.pointer none] w fun e w' => e = .returned (.slice none 0 0) ∧ w' = w := by
  go_enter Tryz.func41, Tryz.ntmps41
  go_wp2
  go_ret
  exact ⟨rfl, rfl⟩
theorem screen_nil (w : World) : Calls Tryz.prog 66 #[.pointer none] w fun e w' => e = .returned (.slice none 0 0) ∧ w' = w := by
  go_enter Tryz.func66, Tryz.ntmps66
  go_wp2
  go_ret
  exact ⟨rfl, rfl⟩
theorem screen_any (b : Nat) (w : World) {F : Nat → Prop} {m : MS} (hm : HasM w F b m) :
    Calls Tryz.prog 66 #[.pointer (some ⟨b, 0, none⟩)] w fun e w' => ∃ u, e = .returned u ∧ Row w' w.heap.size u m.scr ∧ Below w.heap.size w w' := by
  obtain ⟨mb, L, tv, hm⟩ := hm
  have hs : Sl w (.slice (some ⟨b, 16385, none⟩) 3072 3072) m.scr := by
    refine .inr ⟨⟨b, 16385, none⟩, 3072, by rw [hm.wf.scr], by rw [hm.wf.scr]; omega, fun j x hj => ?_⟩
    have e : (⟨b, 16385, none⟩ : Addr).add j = ⟨b, 16385 + j, none⟩ := Addr.add_lit _ _ _
    rw [e]; exact cell_of w b _ _ 104 _ hm.blk (mcells_scr mb m tv hm.wf j x hj)
  have hc := clone_any _ m.scr (by rw [hm.wf.scr]; unfold room; omega) w hs
  go_enter Tryz.func66, Tryz.ntmps66
  go_wp2_with fail
  refine hc.mono ?_
  rintro e w1 ⟨u, rfl, h1, h2⟩
  go_wp2
  go_ret
  exact ⟨_, rfl, h1, h2⟩
end Go.Proofs.YtgponcjjnjpfkabGreat.M
/-! awake. -/
namespace Go.Proofs.YtgponcjjnjpfkabGreat.M
open Go.RowKit
open Go.Proofs
set_option linter.unusedVariables false
set_option linter.unusedSimpArgs false
theorem Done.below {w w' : World} {B : Nat} {b : Nat} {m : MS} (h : Done w w' (fun k => B ≤ k) b m) (hB : B ≤ w.heap.size) : HasM w' (fun k => B ≤ k) b m ∧ Below B w w' :=
  ⟨h.1.mono fun i hi g => by rcases g with g | ⟨g, _⟩ <;> omega, h.2.below hB fun i f => f⟩
set_option maxHeartbeats 2000000
set_option maxRecDepth 100000
end Go.Proofs.YtgponcjjnjpfkabGreat.M
/-! own, ownBanks: banks in new memory, a mark behind each. -/
namespace Go.Proofs.YtgponcjjnjpfkabGreat.M
open Go.RowKit
open Go.Proofs
set_option linter.unusedVariables false
set_option linter.unusedSimpArgs false
theorem info37 : (Tryz.prog.info? 72).map (fun i => (i.zero, i.size, i.bytes)) = some (some (.agg #[.int .i64 0, .slice none 0 0]), 2, 32) := by kernel_rfl
def bc (t : Int × List UInt8) (g : Nat × Nat) : List Value := [.int .i64 t.1, .slice (some ⟨g.1, 0, none⟩) t.2.length g.2]
def bcs : List (Int × List UInt8) → List (Nat × Nat) → List Value
  | t :: bs, g :: gs => bc t g ++ bcs bs gs
  | _, _ => []
theorem bcs_len : ∀ (bs : List (Int × List UInt8)) (gs : List (Nat × Nat)), gs.length = bs.length → (bcs bs gs).length = bs.length * 2
  | [], [], _ => rfl
  | t :: bs, g :: gs, h => by simp [bcs, bc, bcs_len bs gs (by simpa using h)]; omega
theorem bcs_snoc : ∀ (bs : List (Int × List UInt8)) (gs : List (Nat × Nat)) (t : Int × List UInt8) (g : Nat × Nat), gs.length = bs.length → bcs (bs ++ [t]) (gs ++ [g]) = bcs bs gs ++ bc t g
  | [], [], t, g, _ => by simp [bcs]
  | u :: bs, x :: gs, t, g, h => by simp [bcs, bcs_snoc bs gs t g (by simpa using h)]
theorem bcs_get : ∀ (bs : List (Int × List UInt8)) (gs : List (Nat × Nat)) (i : Nat) (t : Int × List UInt8) (g : Nat × Nat), bs[i]? = some t → gs[i]? = some g → (bcs bs gs)[i * 2]? = some (.int .i64 t.1) ∧ (bcs bs gs)[i * 2 + 1]? = some (.slice (some ⟨g.1, 0, none⟩) t.2.length g.2)
  | u :: bs, x :: gs, 0, t, g, h1, h2 => by simp at h1 h2; subst h1 h2; exact ⟨rfl, rfl⟩
  | u :: bs, x :: gs, i + 1, t, g, h1, h2 => by
    have := bcs_get bs gs i t g (by simpa using h1) (by simpa using h2)
    simp only [bcs, bc]
    rw [show (i + 1) * 2 = i * 2 + 1 + 1 by omega]
    exact this
theorem bcs_one : ∀ (bs : List (Int × List UInt8)) (gs : List (Nat × Nat)), ∀ u ∈ bcs bs gs, u.oneCell' = true
  | t :: bs, g :: gs, u, h => by
    simp only [bcs, bc, List.cons_append, List.nil_append, List.mem_cons] at h
    rcases h with rfl | rfl | h
    · rfl
    · rfl
    · exact bcs_one bs gs u h
  | [], _, u, h => by simp [bcs] at h
  | t :: bs, [], u, h => by simp [bcs] at h
/-- Banks in new memory, with a mark behind each. -/
structure OB (W : World) (B : Nat) (v : Value) (bs : List (Int × List UInt8)) (gs : List (Nat × Nat)) : Prop where
  len : gs.length = bs.length
  row : W.ownsRow B 72 2 v bs.length (bcs bs gs)
  dat : ∀ (i : Nat) (t : Int × List UInt8) (g : Nat × Nat), bs[i]? = some t → gs[i]? = some g → Row W B (.slice (some ⟨g.1, 0, none⟩) (t.2.length + 1) g.2) (t.2 ++ [90])
  nd : (gs.map Prod.fst).Nodup
theorem row_pre {W : World} {B : Nat} {g c n : Nat} {l m : List UInt8} (h : Row W B (.slice (some ⟨g, 0, none⟩) n c) (l ++ m)) : Sl W (.slice (some ⟨g, 0, none⟩) l.length c) l := by
  have h' := h
  rcases h.2 with ⟨e, _⟩ | ⟨g', cap, cur, e, _, hg, hcap, _⟩
  · cases e
  · simp only [Value.slice.injEq, Option.some.injEq, Addr.mk.injEq, and_true, true_and] at e
    obtain ⟨rfl, _, rfl⟩ := e
    refine .inr ⟨_, c, rfl, by simp at hcap; omega, fun j b hj => ?_⟩
    have hj2 : (l ++ m)[j]? = some b := by rw [List.getElem?_append_left (List.getElem?_eq_some_iff.1 hj).1]; exact hj
    exact World.ownsRow.cells h' (g := g) rfl j _ ((bv_get _ j _).2 ⟨b, hj2, rfl⟩)
theorem OB.ex {W : World} {B : Nat} {v : Value} {bs : List (Int × List UInt8)} {gs : List (Nat × Nat)} (h : OB W B v bs gs) (hl : ∀ t ∈ bs, t.2.length ≤ room) : ∃ p c, v = .slice p bs.length c ∧ BnS W p bs := by
  rcases h.row.2 with ⟨rfl, e⟩ | ⟨g, cap, cur, rfl, _⟩
  · have : bs = [] := List.eq_nil_of_length_eq_zero e
    subst this
    exact ⟨none, 0, rfl, fun i t ht => by simp at ht⟩
  · refine ⟨_, cap, rfl, fun i t ht => ?_⟩
    have hi := (List.getElem?_eq_some_iff.1 ht).1
    have hig : i < gs.length := by rw [h.len]; exact hi
    have hg : gs[i]? = some gs[i] := List.getElem?_eq_getElem hig
    obtain ⟨k1, k2⟩ := bcs_get bs gs i t _ ht hg
    have c1 := World.ownsRow.cells h.row (g := g) rfl _ _ k1
    have c2 := World.ownsRow.cells h.row (g := g) rfl _ _ k2
    rw [Addr.add_lit] at c1 c2
    refine ⟨g, 0, _, rfl, c1, c2, row_pre (h.dat i t _ ht hg), hl t (List.mem_of_getElem? ht)⟩
theorem OB.kept {W W' : World} {B : Nat} {v : Value} {bs : List (Int × List UInt8)} {gs : List (Nat × Nat)} (h : OB W B v bs gs) (k : ∀ i, B ≤ i → i < W.heap.size → W'.heap[i]? = W.heap[i]?) : OB W' B v bs gs :=
  ⟨h.len, own_kept h.row fun g e hg => k g (h.row.lt g e).1 hg, fun i t g h1 h2 => own_kept (h.dat i t g h1 h2) fun x e hg => k x ((h.dat i t g h1 h2).lt x e).1 hg, h.nd⟩
theorem OB.below {W W' : World} {B : Nat} {v : Value} {bs : List (Int × List UInt8)} {gs : List (Nat × Nat)} (h : OB W B v bs gs) (k : Below W.heap.size W W') : OB W' B v bs gs := h.kept fun i _ hi => k.block i hi
/-- One bank more. -/
theorem OB.snoc {W W1 W2 : World} {B : Nat} {v v' : Value} {bs : List (Int × List UInt8)} {gs : List (Nat × Nat)} (h : OB W B v bs gs) (hB : B ≤ W.heap.size) (t : Int × List UInt8) (g c : Nat) (hb : Below W.heap.size W W1)
    (hd : Row W1 W.heap.size (.slice (some ⟨g, 0, none⟩) (t.2.length + 1) c) (t.2 ++ [90])) (hg : Grew W1 W2 v v') (hr : W2.ownsRow B 72 2 v' (bs.length + 1) (bcs bs gs ++ bc t (g, c))) :
    OB W2 B v' (bs ++ [t]) (gs ++ [(g, c)]) := by
  have hlt : ∀ (i : Nat) (x : Int × List UInt8) (y : Nat × Nat), bs[i]? = some x → gs[i]? = some y → y.1 < W.heap.size := fun i x y h1 h2 => ((h.dat i x y h1 h2).lt y.1 rfl).2
  have hmem : ∀ y ∈ gs, y.1 < W.heap.size := by
    intro y hy
    obtain ⟨i, hi, e⟩ := List.mem_iff_getElem.1 hy
    have hb' : i < bs.length := by rw [← h.len]; exact hi
    exact hlt i bs[i] y (List.getElem?_eq_getElem hb') (by rw [List.getElem?_eq_getElem hi, e])
  have hgw : W.heap.size ≤ g := (hd.lt g rfl).1
  have nv : ∀ k cur, W1.heap[k]? = some (.cells cur 5 (0, 0)) → some k ≠ v.ownBlock := by
    intro k cur e1 e2
    obtain ⟨cur2, e3⟩ := own_block h.row k e2.symm
    have := (hb.block k (lt_of e3)).trans e3
    rw [e1] at this
    simp at this
  have kp : ∀ {x : Value} {n xs}, W1.ownsRow B 5 1 x n xs → W2.ownsRow B 5 1 x n xs := fun hx => own_kept hx fun k e hk => by
    obtain ⟨cur, e1⟩ := own_block hx k e
    exact hg.block k hk (nv k cur e1)
  refine ⟨by simp [h.len], ?_, ?_, ?_⟩
  · rw [bcs_snoc bs gs t (g, c) h.len, List.length_append]; exact hr
  · intro i x y h1 h2
    by_cases hi : i < bs.length
    · rw [List.getElem?_append_left hi] at h1
      rw [List.getElem?_append_left (by rw [h.len]; exact hi)] at h2
      exact kp (Row.below (h.dat i x y h1 h2) hb)
    · rw [List.getElem?_append_right (by omega)] at h1
      rw [List.getElem?_append_right (by rw [h.len]; omega)] at h2
      have e0 : i - bs.length = 0 := by
        have := (List.getElem?_eq_some_iff.1 h1).1; simp at this; omega
      rw [e0] at h1; rw [h.len, e0] at h2
      simp at h1 h2; subst h1 h2
      exact kp (Row.mono hd hB)
  · rw [List.map_append, List.nodup_append]
    refine ⟨h.nd, by simp, ?_⟩
    intro a ha b hb' e
    simp at hb'
    simp only [List.mem_map] at ha
    obtain ⟨y, hy, rfl⟩ := ha
    have := hmem y hy
    omega
set_option maxHeartbeats 2000000
set_option maxRecDepth 100000
theorem slice_to (W : World) (p : Option Addr) (n cap h : Nat) (z : Int) (hz : z = (h : Int)) (hc : h ≤ cap) : (Instr.sliceAt 51 (.slice p n cap) none (some (.int .i64 z)) none).run Tryz.prog W = .ok (.slice p h cap) W := by
  subst hz
  have elem35 : Tryz.prog.underlying 51 = some (.slice (Tryz.prog.elem 51)) := by kernel_rfl
  have size5 : (sizeOf (Tryz.prog.elem 51)).run Tryz.prog W = .ok 1 W := by
    have e : Tryz.prog.elem 51 = 5 := by kernel_rfl
    rw [e]
    exact Tryz.sizeOf5 W
  have e0 : Option.map (fun x : Addr => x.add 0) p = p := by cases p <;> simp [Addr.add]
  rw [run_sliceAt_slice W 51 _ _ _ _ elem35, run_slice_h W 51 p n cap elem35 .i64 (h : Int) (by omega) (by omega), size5]
  simp [Result.andThen, sliced, e0]
end Go.Proofs.YtgponcjjnjpfkabGreat.M
/-! SameBanks, SameImage, image. -/
namespace Go.Proofs.YtgponcjjnjpfkabGreat.M
open Go.RowKit
open Go.Proofs
set_option linter.unusedVariables false
set_option linter.unusedSimpArgs false
theorem Sl.conv {W : World} {v : Value} {l : List UInt8} (h : Sl W v l) : (convert 51 9 v).run Tryz.prog W = .ok (.string ⟨l.toArray⟩) W := by
  rcases h with ⟨rfl, rfl⟩ | ⟨x, c, rfl, _, h⟩
  · rw [run_convert_bytes_string W 51 9 5 none 0 0 Tryz.underlying51 Tryz.underlying5 Tryz.underlying9]; rfl
  · exact run_convert_bytes_back (P := Tryz.prog) W 51 9 5 x c l Tryz.underlying51 Tryz.underlying5 Tryz.underlying9 (fun j hj => h j _ (by simp))
set_option maxHeartbeats 2000000
set_option maxRecDepth 100000
theorem sameBanks_any (p p' : Option Addr) (c c' : Nat) (bs : List (Int × List UInt8)) (hl : bs.length ≤ room) (w : World) (h : BnS w p bs) (h' : BnS w p' bs) :
    Calls Tryz.prog 68 #[.slice p bs.length c, .slice p' bs.length c'] w fun e w' => e = .returned (.bool true) ∧ ∃ q, w' = w.drewN q := by
  unfold room at hl
  go_enter Tryz.func68, Tryz.ntmps68
  go_wp2
  go_loopw [13] (fun i wr => ∃ k q : Nat, k ≤ bs.length ∧ i = .int .i64 (k : Int) ∧ wr = w.drewN q) (fun i _ => bs.length - (intOf i).toNat)
  case atStart => exact ⟨0, 0, by omega, rfl, rfl⟩
  case round =>
    obtain ⟨k, q, hk, rfl, rfl⟩ := hrel
    by_cases hlt : k < bs.length
    · have i1 : (k : Int) < bs.length := by omega
      obtain ⟨b, o, dv, rfl, e1, e2, e3, e4⟩ := h k bs[k] (List.getElem?_eq_getElem hlt)
      obtain ⟨b', o', dv', rfl, f1, f2, f3, f4⟩ := h' k bs[k] (List.getElem?_eq_getElem hlt)
      have v1 := fun q => Sl.conv (W := w.drewN q) e3
      have v2 := fun q => Sl.conv (W := w.drewN q) f3
      obtain ⟨dp, dc, rfl, _⟩ := e3.ex
      obtain ⟨dp', dc', rfl, _⟩ := f3.ex
      generalize hn : (bs[k]).1 = n at *
      generalize hL : (bs[k]).2.length = L at *
      generalize hs : (⟨(bs[k]).2.toArray⟩ : ByteArray) = s at *
      clear e3 f3
      have g1 : ∀ q, (w.drewN q).cell? ⟨b, o + k * 2, none⟩ = some (.int .i64 n) := fun q => e1
      have g2 : ∀ q, (w.drewN q).cell? ⟨b, o + k * 2 + 1, none⟩ = some (.slice dp L dc) := fun q => e2
      have g3 : ∀ q, (w.drewN q).cell? ⟨b', o' + k * 2, none⟩ = some (.int .i64 n) := fun q => f1
      have g4 : ∀ q, (w.drewN q).cell? ⟨b', o' + k * 2 + 1, none⟩ = some (.slice dp' L dc') := fun q => f2
      go_wp2_with fail
      go_quiet (fail)
      go_wp2
      go_roundw
      case rel =>
        first
          | exact ⟨k + 1, _, by omega, by go_num, rfl⟩
          | ((repeat apply Exists.intro); refine ⟨⟨k + 1, _, by omega, ?_, rfl⟩, rfl⟩; go_num)
      case measure => simp [intOf]; omega
    · obtain rfl : k = bs.length := by omega
      go_wp2
      go_ret
      exact ⟨rfl, _, rfl⟩
/-- An image, as a value. -/
def img (pb : Option Addr) (nb cb : Nat) (rv sv : Value) (m : MS) : Value := .agg #[.slice pb nb cb, rv, sv, .int .u8 m.ch, .int .u8 m.pad, .int .u16 m.pitch, .int .u8 m.vol, .int .u16 m.time]
theorem sameImage_any (p p' : Option Addr) (c c' : Nat) (bs : List (Int × List UInt8)) (hl : bs.length ≤ room) (rv rv' sv sv' : Value) (ram scr : List UInt8) (m : MS) (w : World) (h : BnS w p bs) (h' : BnS w p' bs)
    (r : Sl w rv ram) (r' : Sl w rv' ram) (s : Sl w sv scr) (s' : Sl w sv' scr) :
    Calls Tryz.prog 40 #[img p bs.length c rv sv m, img p' bs.length c' rv' sv' m] w fun e w' => e = .returned (.bool true) ∧ Below w.heap.size w w' := by
  obtain ⟨W1, hW1⟩ : ∃ W1, W1 = (w.alloc (.cells #[.slice p bs.length c, rv, sv, .int .u8 m.ch, .int .u8 m.pad, .int .u16 m.pitch, .int .u8 m.vol, .int .u16 m.time] 110)).alloc (.cells #[.slice p' bs.length c', rv', sv', .int .u8 m.ch, .int .u8 m.pad, .int .u16 m.pitch, .int .u8 m.vol, .int .u16 m.time] 110) := ⟨_, rfl⟩
  have hB1 : Below w.heap.size w W1 := by rw [hW1]; exact ((Below.refl _ w).alloc (Nat.le_refl _) _).alloc (by simp) _
  have hsb := sameBanks_any p p' c c' bs hl W1 (h.below hB1) (h'.below hB1)
  have v1 := fun q => Sl.conv (W := W1.drewN q) (Sl.below (W' := W1) r hB1)
  have v2 := fun q => Sl.conv (W := W1.drewN q) (Sl.below (W' := W1) r' hB1)
  have v3 := fun q => Sl.conv (W := W1.drewN q) (Sl.below (W' := W1) s hB1)
  have v4 := fun q => Sl.conv (W := W1.drewN q) (Sl.below (W' := W1) s' hB1)
  obtain ⟨rp, rc, rfl, _⟩ := r.ex
  obtain ⟨rp', rc', rfl, _⟩ := r'.ex
  obtain ⟨sp, sc', rfl, _⟩ := s.ex
  obtain ⟨sp', sc'', rfl, _⟩ := s'.ex
  have HB : Hid _ := hB1
  clear hB1 h h' r r' s s'
  subst hW1
  unfold img
  go_enter Tryz.func40, Tryz.ntmps40
  go_wp2_with fail
  refine hsb.mono ?_
  rintro e w2 ⟨rfl, q, rfl⟩
  go_wp2
  go_ret
  exact ⟨rfl, HB.out.os, HB.out.tape, HB.out.output, HB.out.size, HB.out.block⟩
end Go.Proofs.YtgponcjjnjpfkabGreat.M
/-! banksInOrder, Image. -/
namespace Go.Proofs.YtgponcjjnjpfkabGreat.M
open Go.RowKit
open Go.Proofs
set_option linter.unusedVariables false
set_option linter.unusedSimpArgs false
/-- Banks in new memory. -/
structure OI (W : World) (B : Nat) (v : Value) (bs : List (Int × List UInt8)) (gs : List (Nat × Nat)) : Prop where
  len : gs.length = bs.length
  row : W.ownsRow B 72 2 v bs.length (bcs bs gs)
  dat : ∀ (i : Nat) (t : Int × List UInt8) (g : Nat × Nat), bs[i]? = some t → gs[i]? = some g → Row W B (.slice (some ⟨g.1, 0, none⟩) t.2.length g.2) t.2
  nd : (gs.map Prod.fst).Nodup
theorem OI.ex {W : World} {B : Nat} {v : Value} {bs : List (Int × List UInt8)} {gs : List (Nat × Nat)} (h : OI W B v bs gs) (hl : ∀ t ∈ bs, t.2.length ≤ room) : ∃ p c, v = .slice p bs.length c ∧ BnS W p bs := by
  rcases h.row.2 with ⟨rfl, e⟩ | ⟨g, cap, cur, rfl, _⟩
  · have : bs = [] := List.eq_nil_of_length_eq_zero e
    subst this
    exact ⟨none, 0, rfl, fun i t ht => by simp at ht⟩
  · refine ⟨_, cap, rfl, fun i t ht => ?_⟩
    have hi := (List.getElem?_eq_some_iff.1 ht).1
    have hig : i < gs.length := by rw [h.len]; exact hi
    have hg : gs[i]? = some gs[i] := List.getElem?_eq_getElem hig
    obtain ⟨k1, k2⟩ := bcs_get bs gs i t _ ht hg
    have c1 := World.ownsRow.cells h.row (g := g) rfl _ _ k1
    have c2 := World.ownsRow.cells h.row (g := g) rfl _ _ k2
    rw [Addr.add_lit] at c1 c2
    refine ⟨g, 0, _, rfl, c1, c2, Row.sl (h.dat i t _ ht hg), hl t (List.mem_of_getElem? ht)⟩
theorem OI.kept {W W' : World} {B : Nat} {v : Value} {bs : List (Int × List UInt8)} {gs : List (Nat × Nat)} (h : OI W B v bs gs) (k : ∀ i, B ≤ i → i < W.heap.size → W'.heap[i]? = W.heap[i]?) : OI W' B v bs gs :=
  ⟨h.len, own_kept h.row fun g e hg => k g (h.row.lt g e).1 hg, fun i t g h1 h2 => own_kept (h.dat i t g h1 h2) fun x e hg => k x ((h.dat i t g h1 h2).lt x e).1 hg, h.nd⟩
theorem OI.below {W W' : World} {B : Nat} {v : Value} {bs : List (Int × List UInt8)} {gs : List (Nat × Nat)} (h : OI W B v bs gs) (k : Below W.heap.size W W') : OI W' B v bs gs := h.kept fun i _ hi => k.block i hi
/-- One bank more. -/
theorem OI.snoc {W W1 W2 : World} {B : Nat} {v v' : Value} {bs : List (Int × List UInt8)} {gs : List (Nat × Nat)} (h : OI W B v bs gs) (hB : B ≤ W.heap.size) (t : Int × List UInt8) (g c : Nat) (hb : Below W.heap.size W W1)
    (hd : Row W1 W.heap.size (.slice (some ⟨g, 0, none⟩) t.2.length c) t.2) (hg : Grew W1 W2 v v') (hr : W2.ownsRow B 72 2 v' (bs.length + 1) (bcs bs gs ++ bc t (g, c))) :
    OI W2 B v' (bs ++ [t]) (gs ++ [(g, c)]) := by
  have hlt : ∀ (i : Nat) (x : Int × List UInt8) (y : Nat × Nat), bs[i]? = some x → gs[i]? = some y → y.1 < W.heap.size := fun i x y h1 h2 => ((h.dat i x y h1 h2).lt y.1 rfl).2
  have hmem : ∀ y ∈ gs, y.1 < W.heap.size := by
    intro y hy
    obtain ⟨i, hi, e⟩ := List.mem_iff_getElem.1 hy
    have hb' : i < bs.length := by rw [← h.len]; exact hi
    exact hlt i bs[i] y (List.getElem?_eq_getElem hb') (by rw [List.getElem?_eq_getElem hi, e])
  have hgw : W.heap.size ≤ g := (hd.lt g rfl).1
  have nv : ∀ k cur, W1.heap[k]? = some (.cells cur 5 (0, 0)) → some k ≠ v.ownBlock := by
    intro k cur e1 e2
    obtain ⟨cur2, e3⟩ := own_block h.row k e2.symm
    have := (hb.block k (lt_of e3)).trans e3
    rw [e1] at this
    simp at this
  have kp : ∀ {x : Value} {n xs}, W1.ownsRow B 5 1 x n xs → W2.ownsRow B 5 1 x n xs := fun hx => own_kept hx fun k e hk => by
    obtain ⟨cur, e1⟩ := own_block hx k e
    exact hg.block k hk (nv k cur e1)
  refine ⟨by simp [h.len], ?_, ?_, ?_⟩
  · rw [bcs_snoc bs gs t (g, c) h.len, List.length_append]; exact hr
  · intro i x y h1 h2
    by_cases hi : i < bs.length
    · rw [List.getElem?_append_left hi] at h1
      rw [List.getElem?_append_left (by rw [h.len]; exact hi)] at h2
      exact kp (Row.below (h.dat i x y h1 h2) hb)
    · rw [List.getElem?_append_right (by omega)] at h1
      rw [List.getElem?_append_right (by rw [h.len]; omega)] at h2
      have e0 : i - bs.length = 0 := by
        have := (List.getElem?_eq_some_iff.1 h1).1; simp at this; omega
      rw [e0] at h1; rw [h.len, e0] at h2
      simp at h1 h2; subst h1 h2
      exact kp (Row.mono hd hB)
  · rw [List.map_append, List.nodup_append]
    refine ⟨h.nd, by simp, ?_⟩
    intro a ha b hb' e
    simp at hb'
    simp only [List.mem_map] at ha
    obtain ⟨y, hy, rfl⟩ := ha
    have := hmem y hy
    omega

/-- The banks below k that there are, by their numbers. -/
def inO (m : MS) (k : Nat) : List (Int × List UInt8) := (List.range k).filterMap fun n => (m.banks n).map fun l => ((n : Int), l)
theorem inO_none (m : MS) (k : Nat) (h : m.banks k = none) : inO m (k + 1) = inO m k := by simp [inO, List.range_succ, List.filterMap_append, h]
theorem inO_some (m : MS) (k : Nat) (l : List UInt8) (h : m.banks k = some l) : inO m (k + 1) = inO m k ++ [((k : Int), l)] := by simp [inO, List.range_succ, List.filterMap_append, h]
theorem inO_len (m : MS) (k : Nat) : (inO m k).length ≤ k := by
  have := List.length_filterMap_le (fun n => (m.banks n).map fun l => ((n : Int), l)) (List.range k)
  simpa [inO] using this
set_option maxHeartbeats 2000000
set_option maxRecDepth 100000
theorem inOrder_any (b : Nat) (w : World) {F : Nat → Prop} {m : MS} (hm : HasM w F b m) :
    Calls Tryz.prog 64 #[.pointer (some ⟨b, 0, none⟩)] w fun e w' => ∃ u gs, e = .returned u ∧ OI w' w.heap.size u (inO m 16) gs ∧ Below w.heap.size w w' := by
  go_enter Tryz.func64, Tryz.ntmps64
  go_wp2
  go_loopw [3, 6] (fun v i wr => ∃ (k : Nat) (gs : List (Nat × Nat)), k ≤ 16 ∧ i = .int .i64 (k : Int) ∧ OI wr w.heap.size v (inO m k) gs ∧ Below w.heap.size w wr) (fun _ i _ => 16 - (intOf i).toNat)
  case atStart => exact ⟨0, [], by omega, rfl, ⟨rfl, World.ownsRow_nil _ _ _ _, fun i t g h1 _ => by simp [inO] at h1, by simp⟩, Below.refl _ _⟩
  case round =>
    obtain ⟨k, gs, hk, rfl, hO, hB⟩ := hrel
    by_cases hlt : k < 16
    · have i1 : (k : Int) < 16 := by omega
      obtain ⟨mb, L, tv, hm2⟩ := hm.below hB
      have cb := cell_of wr b 0 _ 104 _ hm2.blk (mcells_0 mb m tv)
      cases hbk : m.banks k with
      | none =>
        have hlk := look_none wr mb k L hm2.map (by rintro p hp rfl; obtain ⟨l, e2, _⟩ := hm2.bks p hp; rw [hbk] at e2; cases e2)
        have hO2 : OI wr w.heap.size u3 (inO m (k + 1)) gs := by rw [inO_none m k hbk]; exact hO
        have HO2 : Hid _ := hO2
        have HB : Hid _ := hB
        clear hO hO2 hm2 hB hbk
        go_wp2
        go_roundw
        case rel =>
          first
            | exact ⟨k + 1, _, by omega, by go_num, HO2.out, HB.out⟩
            | ((repeat apply Exists.intro); refine ⟨⟨k + 1, _, by omega, ?_, HO2.out, HB.out⟩, rfl⟩; go_num)
        case measure => simp [intOf]; omega
      | some l =>
        obtain ⟨g, hg⟩ := hm2.all _ _ hbk
        obtain ⟨l', e2, hkk⟩ := hm2.bks _ hg
        rw [hbk] at e2; cases e2
        have hlk := look_some wr mb k g L hm2.map hm2.keys hg
        have hl := (hm2.wf.bk _ _ hbk).2
        have hsl : Sl wr (.slice (some ⟨g, 0, none⟩) 16384 16384) l := by
          refine .inr ⟨⟨g, 0, none⟩, 16384, by rw [hl], by rw [hl]; omega, fun j x hj => ?_⟩
          rw [Addr.add_lit, Nat.zero_add]
          exact cell_of wr g _ _ 101 _ hkk ((bv_get l _ _).2 ⟨x, hj, rfl⟩)
        have hcl := clone_any _ l (by rw [hl]; unfold room; omega) wr hsl
        have hin := inO_some m k l hbk
        have hlen := inO_len m k
        clear hm2 hsl hkk hg hbk
        go_wp2_with fail
        refine hcl.mono ?_
        rintro e w2 ⟨u, rfl, hu, hb2⟩
        obtain ⟨g2, cap, rfl⟩ := own_pos hu (by omega)
        have hB4 : Below w.heap.size w w2 := hB.trans (hb2.mono hB.size)
        obtain ⟨W1, hW1⟩ : ∃ W1, W1 = w2.alloc (.cells #[.int .i64 (k : Int), .slice (some ⟨g2, 0, none⟩) l.length cap] 72) := ⟨_, rfl⟩
        have hbl : Below wr.heap.size wr W1 := by rw [hW1]; exact hb2.alloc hb2.size _
        have hown : (w2.alloc (.cells #[.int .i64 (k : Int), .slice (some ⟨g2, 0, none⟩) l.length cap] 72)).ownsRow w.heap.size 72 2 u3 (inO m k).length (bcs (inO m k) gs) := by
          rw [← hW1]; exact own_kept hO.row fun x e hx => hbl.block x hx
        have hcs : Cs (w2.alloc (.cells #[.int .i64 (k : Int), .slice (some ⟨g2, 0, none⟩) l.length cap] 72)) (.slice (some ⟨w2.heap.size, 0, none⟩) 1 1) 2 1 (bc ((k : Int), l) (g2, cap)) := by
          refine .inr ⟨⟨w2.heap.size, 0, none⟩, 1, rfl, rfl, ?_, by intro x hx; simp [bc] at hx; rcases hx with rfl | rfl <;> rfl⟩
          intro j x hj
          have hn : (w2.alloc (.cells #[.int .i64 (k : Int), .slice (some ⟨g2, 0, none⟩) l.length cap] 72)).heap[w2.heap.size]? = some (.cells (bc ((k : Int), l) (g2, cap)).toArray 72 (0, 0)) := heap_alloc_new w2 _
          have e : (⟨w2.heap.size, 0, none⟩ : Addr).add j = ⟨w2.heap.size, j, none⟩ := by rw [Addr.add_lit]; simp
          rw [e]
          exact cell_of _ _ _ _ 72 x hn hj
        have b1 : ((inO m k).length + 1) * 32 ≤ room := by unfold room; omega
        have b2 : (inO m k).length + 1 ≤ maxLen := by unfold maxLen; omega
        have hwz : w.heap.size ≤ (w2.alloc (.cells #[.int .i64 (k : Int), .slice (some ⟨g2, 0, none⟩) l.length cap] 72)).heap.size := by have := hB4.size; simp; omega
        have hend : ∀ v' w4, w4.ownsRow w.heap.size 72 2 v' ((inO m k).length + 1) (bcs (inO m k) gs ++ bc ((k : Int), l) (g2, cap)) → Grew (w2.alloc (.cells #[.int .i64 (k : Int), .slice (some ⟨g2, 0, none⟩) l.length cap] 72)) w4 u3 v' →
            OI w4 w.heap.size v' (inO m (k + 1)) (gs ++ [(g2, cap)]) ∧ Below w.heap.size w w4 := by
          intro v' w4 ho hg
          rw [← hW1] at hg
          rw [hin]
          have hr4 : Row W1 wr.heap.size (.slice (some ⟨g2, 0, none⟩) l.length cap) l := by
            rw [hW1]; exact Row.below hu ((Below.refl _ _).alloc (Nat.le_refl _) _)
          refine ⟨hO.snoc hB.size ((k : Int), l) g2 cap hbl hr4 hg ho, ?_⟩
          refine hg.belowAll (fun x e => (hO.row.lt x e).1) (N := w.heap.size) (W0 := w) ?_ (Nat.le_refl _)
          rw [hW1]; exact hB4.alloc hB4.size _
        have HE : Hid _ := hend
        clear hW1 hbl hend hO hB hB4 hin hu hb2 hlen hl
        go_wp2_with (first | (at_builtin; refine wpList_append_row _ rfl _ _ 50 72 _ 2 32 Tryz.underlying50 info37 rfl (by decide) rfl w.heap.size _ _ _ rfl hown _ 1 (bc ((k : Int), l) (g2, cap)) rfl hcs b1 b2 hwz ?_))
        intro v' w4 ho hg
        obtain ⟨hO2, hB2⟩ := HE.out v' w4 ho hg
        have HO2 : Hid _ := hO2
        have HB2 : Hid _ := hB2
        clear hO2 hB2 ho hg hown hcs HE
        go_wp2
        go_roundw
        case rel =>
          first
            | exact ⟨k + 1, _, by omega, by go_num, HO2.out, HB2.out⟩
            | ((repeat apply Exists.intro); refine ⟨⟨k + 1, _, by omega, ?_, HO2.out, HB2.out⟩, rfl⟩; go_num)
        case measure => simp [intOf]; omega
    · obtain rfl : k = 16 := by omega
      go_wp2
      go_ret
      exact ⟨_, _, rfl, hO, hB⟩
end Go.Proofs.YtgponcjjnjpfkabGreat.M
/-! The reference: full. -/
namespace Go.Proofs.YtgponcjjnjpfkabGreat.M
open Go.RowKit
open Go.Proofs
set_option linter.unusedVariables false
set_option linter.unusedSimpArgs false
/-- A row of bytes that fills its block. -/
def B5 (W : World) (g : Nat) (l : List UInt8) : Prop := W.heap[g]? = some (.cells (bv l).toArray 5 (0, 0))
def padN (n : Nat) (l : List UInt8) : List UInt8 := l ++ List.replicate (n - l.length) 0
theorem padN_len (n : Nat) (l : List UInt8) (h : l.length ≤ n) : (padN n l).length = n := by rw [padN, List.length_append, List.length_replicate]; omega
theorem padN_full (n : Nat) (l : List UInt8) (h : l.length = n) : padN n l = l := by rw [padN, h, Nat.sub_self]; simp
/-- The first k are written. -/
def fl (n : Nat) (l : List UInt8) (k : Nat) : List UInt8 := l.take k ++ List.replicate (n - k) 0
theorem fl_len (n : Nat) (l : List UInt8) (k : Nat) (h : k ≤ l.length) (hn : l.length ≤ n) : (fl n l k).length = n := by rw [fl, List.length_append, List.length_replicate, List.length_take]; omega
theorem fl_step (n : Nat) (l : List UInt8) (k : Nat) (h : k < l.length) (hn : l.length ≤ n) : (fl n l k).set k l[k] = fl n l (k + 1) := by
  unfold fl
  rw [List.take_succ_eq_append_getElem h, List.append_assoc, List.set_append_right _ _ (by rw [List.length_take]; omega), List.length_take, show k - min k l.length = 0 by omega]
  congr 1
  rw [show n - k = (n - (k + 1)) + 1 by omega, List.replicate_succ, List.set_cons_zero]
  rfl
theorem made_eq (n : Nat) (l : List UInt8) : madeCells #[Value.int .u8 0] n = (bv (fl n l 0)).toArray := by
  apply Array.ext'
  rw [toList_madeCells_one]
  simp [fl, bv]
set_option maxHeartbeats 2000000
set_option maxRecDepth 100000
theorem full_any (v : Value) (l : List UInt8) (n : Nat) (hn : n ≤ 16384) (hl : l.length ≤ n) (w : World) (h : Sl w v l) :
    Calls Tryz.prog 52 #[v, .int .i64 (n : Int)] w fun e w' => e = .returned (.slice (some ⟨w.heap.size, 0, none⟩) n n) ∧ B5 w' w.heap.size (padN n l) ∧ Below w.heap.size w w' ∧ w'.heap.size = w.heap.size + 1 := by
  have hmk := run_make_row' (P := Tryz.prog) 51 5 (.int .u8 0) 1 Tryz.underlying51 info5 rfl .i64 .i64 n (by omega) (by omega)
  have hmc : madeCells #[Value.int .u8 0] n = (bv (fl n l 0)).toArray := made_eq n l
  have hB0 : Below w.heap.size w (w.alloc (.cells (bv (fl n l 0)).toArray 5)) := (Below.refl _ w).alloc (Nat.le_refl _) _
  have h50 : B5 (w.alloc (.cells (bv (fl n l 0)).toArray 5)) w.heap.size (fl n l 0) := heap_alloc_new w _
  have hz0 : (w.alloc (.cells (bv (fl n l 0)).toArray 5)).heap.size = w.heap.size + 1 := by simp
  have H0 : Hid _ := hB0
  have H5 : Hid _ := h50
  have HZ : Hid _ := hz0
  have HS : Hid _ := h
  obtain ⟨p, c, rfl, hbs⟩ := h.ex
  rw [hmc] at hmk
  clear hB0 h50 hz0 hmc h
  go_enter Tryz.func52, Tryz.ntmps52
  go_wp2
  go_loopw [11] (fun i wr => ∃ k : Nat, k ≤ l.length ∧ i = .int .i64 (k : Int) ∧ B5 wr w.heap.size (fl n l k) ∧ Below w.heap.size w wr ∧ wr.heap.size = w.heap.size + 1) (fun i _ => l.length - (intOf i).toNat)
  case atStart => exact ⟨0, by omega, rfl, H5.out, H0.out, HZ.out⟩
  case round =>
    clear H5 H0 HZ
    obtain ⟨k, hk, rfl, h5, hB, hz⟩ := hrel
    by_cases hlt : k < l.length
    · have i1 : (k : Int) < l.length := by omega
      have i2 : (k : Int) < n := by omega
      have hs2 := Sl.below HS.out hB
      obtain ⟨x, rfl, hcx⟩ : ∃ x, p = some x ∧ wr.cell? (x.add k) = some (.int .u8 ((l[k]).toNat : Int)) := by
        rcases hs2 with ⟨e, e2⟩ | ⟨x, c', e, _, hc⟩
        · rw [e2] at hlt; simp at hlt
        · simp only [Value.slice.injEq] at e; exact ⟨x, e.1, hc k _ (List.getElem?_eq_getElem hlt)⟩
      have hfl := fl_len n l k hk hl
      have ho := cell_of wr w.heap.size k _ 5 _ h5 ((bv_get _ _ _).2 ⟨_, lb_of (fl n l k) k (by omega), rfl⟩)
      have hf := frozen_of wr w.heap.size k _ 5 h5
      have hnew : B5 (wr.setCell ⟨w.heap.size, k, none⟩ (.int .u8 ((l[k]).toNat : Int))) w.heap.size (fl n l (k + 1)) := by
        unfold B5; rw [← fl_step n l k hlt hl, ← bv_set]; exact setCell_heap wr _ _ _ 5 _ h5
      have hB2 : Below w.heap.size w (wr.setCell ⟨w.heap.size, k, none⟩ (.int .u8 ((l[k]).toNat : Int))) := hB.setCell (p := ⟨w.heap.size, k, none⟩) (Nat.le_refl _) _
      have hz2 : (wr.setCell ⟨w.heap.size, k, none⟩ (.int .u8 ((l[k]).toNat : Int))).heap.size = w.heap.size + 1 := by rw [setCell_size]; exact hz
      generalize (fl n l k).getD k 0 = old at *
      generalize (l[k]).toNat = y at *
      have HN : Hid _ := hnew
      have HB : Hid _ := hB2
      have HZ : Hid _ := hz2
      clear hnew hB2 hz2 hs2 hbs hfl h5 hB hz
      go_wp2
      go_roundw
      case rel =>
        first
          | exact ⟨k + 1, by omega, by go_num, HN.out, HB.out, HZ.out⟩
          | ((repeat apply Exists.intro); refine ⟨⟨k + 1, by omega, ?_, HN.out, HB.out, HZ.out⟩, rfl⟩; go_num)
      case measure => simp [intOf]; omega
    · obtain rfl : k = l.length := by omega
      have e : fl n l l.length = padN n l := by simp [fl, padN]
      rw [e] at h5
      go_wp2
      go_ret
      exact ⟨rfl, h5, hB, hz⟩
end Go.Proofs.YtgponcjjnjpfkabGreat.M
/-! The reference: its memory, Copy. -/
namespace Go.Proofs.YtgponcjjnjpfkabGreat.M
open Go.RowKit
open Go.Proofs
set_option linter.unusedVariables false
set_option linter.unusedSimpArgs false
def rcells (u rv sv : Value) (m : MS) (tv : Value) : List Value := [u, rv, sv, .int .u8 m.ch, .int .u8 m.pad, .int .u16 m.pitch, .int .u8 m.vol, .int .u16 m.time, .int .i64 m.cyc, tv]
/-- A memory of the reference that can be read. -/
structure RV (W : World) (b : Nat) (bs : List (Int × List UInt8)) (m : MS) (pb : Option Addr) (c : Nat) (rv sv tv : Value) : Prop where
  blk : W.heap[b]? = some (.cells (rcells (.slice pb bs.length c) rv sv m tv).toArray 54 (0, 0))
  bn : BnS W pb bs
  rs : Sl W rv m.ram
  ss : Sl W sv m.scr
  ts : Cs W tv 3 m.tones.length (tc m.tones)
  rl : m.ram.length ≤ 16384
  sl : m.scr.length ≤ 3072
  bl : bs.length * 32 ≤ room
  dl : ∀ t ∈ bs, t.2.length ≤ 16384
  tl : m.tones.length ≤ 1000000
theorem RV.below {W W' : World} {b : Nat} {bs : List (Int × List UInt8)} {m : MS} {pb : Option Addr} {c : Nat} {rv sv tv : Value} (h : RV W b bs m pb c rv sv tv) (k : Below W.heap.size W W') : RV W' b bs m pb c rv sv tv :=
  ⟨(k.block _ (lt_of h.blk)).trans h.blk, h.bn.below k, h.rs.below k, h.ss.below k, h.ts.below k, h.rl, h.sl, h.bl, h.dl, h.tl⟩
def padB (bs : List (Int × List UInt8)) : List (Int × List UInt8) := bs.map fun t => (t.1, padN 16384 t.2)
/-- The banks of the reference, each in a block of its own. -/
structure RB (W : World) (B : Nat) (u : Value) (bs : List (Int × List UInt8)) (gs : List (Nat × Nat)) : Prop where
  len : gs.length = bs.length
  row : W.ownsRow B 72 2 u bs.length (bcs bs gs)
  dat : ∀ (i : Nat) (t : Int × List UInt8) (g : Nat × Nat), bs[i]? = some t → gs[i]? = some g → B5 W g.1 t.2 ∧ g.2 = 16384 ∧ t.2.length = 16384 ∧ B ≤ g.1
  nd : (gs.map Prod.fst).Nodup
theorem RB.kept {W W' : World} {B : Nat} {v : Value} {bs : List (Int × List UInt8)} {gs : List (Nat × Nat)} (h : RB W B v bs gs) (k : ∀ i, B ≤ i → i < W.heap.size → W'.heap[i]? = W.heap[i]?) : RB W' B v bs gs :=
  ⟨h.len, own_kept h.row fun g e hg => k g (h.row.lt g e).1 hg, fun i t g h1 h2 => by obtain ⟨a, c, d, e⟩ := h.dat i t g h1 h2; exact ⟨(k _ e (lt_of a)).trans a, c, d, e⟩, h.nd⟩
theorem RB.snoc {W W1 W2 : World} {B : Nat} {v v' : Value} {bs : List (Int × List UInt8)} {gs : List (Nat × Nat)} (h : RB W B v bs gs) (hB : B ≤ W.heap.size) (t : Int × List UInt8) (g : Nat) (hb : ∀ k, B ≤ k → k < W.heap.size → W1.heap[k]? = W.heap[k]?) (hs : W.heap.size ≤ W1.heap.size)
    (hd : B5 W1 g t.2) (hl : t.2.length = 16384) (hgw : W.heap.size ≤ g) (hg : Grew W1 W2 v v') (hr : W2.ownsRow B 72 2 v' (bs.length + 1) (bcs bs gs ++ bc t (g, 16384))) :
    RB W2 B v' (bs ++ [t]) (gs ++ [(g, 16384)]) := by
  have hmem : ∀ y ∈ gs, y.1 < W.heap.size := by
    intro y hy
    obtain ⟨i, hi, e⟩ := List.mem_iff_getElem.1 hy
    have hb' : i < bs.length := by rw [← h.len]; exact hi
    exact lt_of (h.dat i bs[i] y (List.getElem?_eq_getElem hb') (by rw [List.getElem?_eq_getElem hi, e])).1
  have nv : ∀ k cur, W1.heap[k]? = some (.cells cur 5 (0, 0)) → some k ≠ v.ownBlock := by
    intro k cur e1 e2
    obtain ⟨cur2, e3⟩ := own_block h.row k e2.symm
    have := (hb k (h.row.lt k e2.symm).1 (lt_of e3)).trans e3
    rw [e1] at this
    simp at this
  have kp : ∀ {x : Nat} {l : List UInt8}, B5 W1 x l → B5 W2 x l := fun hx => (hg.block _ (lt_of hx) (nv _ _ hx)).trans hx
  refine ⟨by simp [h.len], ?_, ?_, ?_⟩
  · rw [bcs_snoc bs gs t (g, 16384) h.len, List.length_append]; exact hr
  · intro i x y h1 h2
    by_cases hi : i < bs.length
    · rw [List.getElem?_append_left hi] at h1
      rw [List.getElem?_append_left (by rw [h.len]; exact hi)] at h2
      obtain ⟨a, c, d, e⟩ := h.dat i x y h1 h2
      exact ⟨kp ((hb _ e (lt_of a)).trans a), c, d, e⟩
    · rw [List.getElem?_append_right (by omega)] at h1
      rw [List.getElem?_append_right (by rw [h.len]; omega)] at h2
      have e0 : i - bs.length = 0 := by
        have := (List.getElem?_eq_some_iff.1 h1).1; simp at this; omega
      rw [e0] at h1; rw [h.len, e0] at h2
      simp at h1 h2; subst h1 h2
      exact ⟨kp hd, rfl, hl, by simp; omega⟩
  · rw [List.map_append, List.nodup_append]
    refine ⟨h.nd, by simp, ?_⟩
    intro a ha b hb' e
    simp at hb'
    simp only [List.mem_map] at ha
    obtain ⟨y, hy, rfl⟩ := ha
    have := hmem y hy
    omega
/-- A memory of the reference, in blocks of its own. -/
structure MemR (W : World) (F : Nat → Prop) (b : Nat) (bs : List (Int × List UInt8)) (m : MS) (u : Value) (gr gc : Nat) (gs : List (Nat × Nat)) (tv : Value) : Prop where
  blk : W.heap[b]? = some (.cells (rcells u (.slice (some ⟨gr, 0, none⟩) 16384 16384) (.slice (some ⟨gc, 0, none⟩) 3072 3072) m tv).toArray 54 (0, 0))
  banks : RB W 0 u bs gs
  ram : B5 W gr m.ram
  scr : B5 W gc m.scr
  rl : m.ram.length = 16384
  sl : m.scr.length = 3072
  tones : W.ownsRow 0 99 3 tv m.tones.length (tc m.tones)
  nr : ∀ y ∈ gs, y.1 ≠ gr
  nc : ∀ y ∈ gs, y.1 ≠ gc
  rc : gr ≠ gc
  fb : F b
  fu : ∀ g, u.ownBlock = some g → F g
  fg : ∀ y ∈ gs, F y.1
  fr : F gr
  fc : F gc
  ft : ∀ g, tv.ownBlock = some g → F g
def HasR (W : World) (F : Nat → Prop) (b : Nat) (bs : List (Int × List UInt8)) (m : MS) : Prop := ∃ u gr gc gs tv, MemR W F b bs m u gr gc gs tv
/-- While the banks are copied. -/
structure CR (w wr : World) (v rv sv : Value) (m : MS) (tv : Value) (bs : List (Int × List UInt8)) (gs : List (Nat × Nat)) : Prop where
  blk : wr.heap[w.heap.size]? = some (.cells (rcells v rv sv m tv).toArray 54 (0, 0))
  banks : RB wr (w.heap.size + 1) v bs gs
  bel : Below w.heap.size w wr
  siz : w.heap.size + 1 ≤ wr.heap.size
theorem CR.step {w wr w2 w4 : World} {v v' rv sv : Value} {m : MS} {tv : Value} {bs : List (Int × List UInt8)} {gs : List (Nat × Nat)} (h : CR w wr v rv sv m tv bs gs) (t : Int × List UInt8) (g : Nat) (o1 : Obj) (o2 : Obj)
    (hb : Below (wr.alloc o1).drew.heap.size (wr.alloc o1).drew w2) (hg : g = (wr.alloc o1).drew.heap.size) (hd : B5 w2 g t.2) (hl : t.2.length = 16384)
    (hgr : Grew (w2.alloc o2) w4 v v') (hr : w4.ownsRow (w.heap.size + 1) 72 2 v' (bs.length + 1) (bcs bs gs ++ bc t (g, 16384))) :
    CR w (w4.setCell ⟨w.heap.size, 0, none⟩ v') v' rv sv m tv (bs ++ [t]) (gs ++ [(g, 16384)]) := by
  have z1 : (wr.alloc o1).drew.heap.size = wr.heap.size + 1 := by simp
  have z2 := hb.size
  have hs := h.siz
  have kp : ∀ k, k < wr.heap.size → (w2.alloc o2).heap[k]? = wr.heap[k]? := fun k hk =>
    (Below.heap_alloc w2 o2 k (by omega)).trans ((hb.block k (by omega)).trans (Below.heap_alloc wr o1 k hk))
  have nv : some w.heap.size ≠ v.ownBlock := fun e => by have := (h.banks.row.lt _ e.symm).1; omega
  have hblk4 : w4.heap[w.heap.size]? = some (.cells (rcells v rv sv m tv).toArray 54 (0, 0)) := (hgr.block _ (by simp; omega) nv).trans ((kp _ (by omega)).trans h.blk)
  have hRB := h.banks.snoc (W1 := w2.alloc o2) (W2 := w4) (v' := v') hs t g (fun k _ hk => kp k hk) (by simp; omega) ((Below.heap_alloc w2 o2 g (lt_of hd)).trans hd) hl (by omega) hgr hr
  refine ⟨?_, hRB.kept fun i hi hl => setCell_other _ _ _ _ _ (by omega), ?_, by rw [setCell_size]; have := hgr.size; simp at this; omega⟩
  · rw [setCell_heap w4 _ 0 _ 54 v' hblk4]; rfl
  · have hb4 : Below w.heap.size w w4 := by
      refine hgr.belowAll (fun x e => by have := (h.banks.row.lt x e).1; omega) (N := w.heap.size) (W0 := w) ?_ (Nat.le_refl _)
      refine ⟨(hb.os.trans rfl).trans h.bel.os, (hb.tape.trans rfl).trans h.bel.tape, (hb.output.trans rfl).trans h.bel.output, by simp; omega, fun k hk => (kp k (by omega)).trans (h.bel.block k hk)⟩
    exact hb4.setCell (p := ⟨w.heap.size, 0, none⟩) (Nat.le_refl _) _
theorem CR.start (w : World) (rv sv : Value) (m : MS) (tv : Value) : CR w (w.alloc (.cells (rcells (.slice none 0 0) rv sv m tv).toArray 54)) (.slice none 0 0) rv sv m tv [] [] :=
  ⟨heap_alloc_new w _, ⟨rfl, World.ownsRow_nil _ _ _ _, fun i t g h1 _ => by simp at h1, by simp⟩, (Below.refl _ w).alloc (Nat.le_refl _) _, by simp⟩
/-- Behind the banks: the fields one by one. -/
theorem copy_end {w w3 w4 w5 w6 w7 : World} {v rv sv : Value} {m : MS} {tv tv' : Value} {bs : List (Int × List UInt8)} {gs : List (Nat × Nat)} (h : CR w w3 v rv sv m tv bs gs)
    (hb4 : Below w3.heap.size w3 w4) (h4 : B5 w4 w3.heap.size (padN 16384 m.ram)) (z4 : w4.heap.size = w3.heap.size + 1)
    (e5 : w5 = w4.setCell ⟨w.heap.size, 1, none⟩ (.slice (some ⟨w3.heap.size, 0, none⟩) 16384 16384))
    (hb6 : Below w5.heap.size w5 w6) (h6 : B5 w6 w5.heap.size (padN 3072 m.scr)) (z6 : w6.heap.size = w5.heap.size + 1)
    (e7 : w7 = w6.setCell ⟨w.heap.size, 2, none⟩ (.slice (some ⟨w5.heap.size, 0, none⟩) 3072 3072))
    (rl : m.ram.length ≤ 16384) (sl : m.scr.length ≤ 3072) :
    (∀ w8, Below w7.heap.size w7 w8 → w8.ownsRow w7.heap.size 99 3 tv' m.tones.length (tc m.tones) →
      w8.cell? ⟨w.heap.size, 9, none⟩ = some tv ∧ w8.frozen? ⟨w.heap.size, 9, none⟩ = false ∧
      HasR (w8.setCell ⟨w.heap.size, 9, none⟩ tv') (fun k => w.heap.size ≤ k) w.heap.size bs { m with ram := padN 16384 m.ram, scr := padN 3072 m.scr } ∧ Below w.heap.size w (w8.setCell ⟨w.heap.size, 9, none⟩ tv')) := by
  intro w8 hb8 ht8
  have hs := h.siz
  have z5 : w5.heap.size = w4.heap.size := by rw [e5, setCell_size]
  have z7 : w7.heap.size = w6.heap.size := by rw [e7, setCell_size]
  have z8 := hb8.size
  have b4 : w4.heap[w.heap.size]? = some (.cells (rcells v rv sv m tv).toArray 54 (0, 0)) := (hb4.block _ (by omega)).trans h.blk
  have b5 : w5.heap[w.heap.size]? = some (.cells (rcells v (.slice (some ⟨w3.heap.size, 0, none⟩) 16384 16384) sv m tv).toArray 54 (0, 0)) := by rw [e5, setCell_heap w4 _ 1 _ 54 _ b4]; rfl
  have b6 := (hb6.block w.heap.size (by omega)).trans b5
  have b7 : w7.heap[w.heap.size]? = some (.cells (rcells v (.slice (some ⟨w3.heap.size, 0, none⟩) 16384 16384) (.slice (some ⟨w5.heap.size, 0, none⟩) 3072 3072) m tv).toArray 54 (0, 0)) := by rw [e7, setCell_heap w6 _ 2 _ 54 _ b6]; rfl
  have b8 := (hb8.block w.heap.size (by omega)).trans b7
  have b9 : (w8.setCell ⟨w.heap.size, 9, none⟩ tv').heap[w.heap.size]? = some (.cells (rcells v (.slice (some ⟨w3.heap.size, 0, none⟩) 16384 16384) (.slice (some ⟨w5.heap.size, 0, none⟩) 3072 3072) m tv').toArray 54 (0, 0)) := by rw [setCell_heap w8 _ 9 _ 54 _ b8]; rfl
  have s45 : ∀ k, k ≠ w.heap.size → w5.heap[k]? = w4.heap[k]? := fun k hk => by rw [e5]; exact setCell_other _ _ _ _ _ hk
  have s67 : ∀ k, k ≠ w.heap.size → w7.heap[k]? = w6.heap[k]? := fun k hk => by rw [e7]; exact setCell_other _ _ _ _ _ hk
  have s89 : ∀ k, k ≠ w.heap.size → (w8.setCell ⟨w.heap.size, 9, none⟩ tv').heap[k]? = w8.heap[k]? := fun k hk => setCell_other _ _ _ _ _ hk
  have kk : ∀ k, w.heap.size < k → k < w3.heap.size → (w8.setCell ⟨w.heap.size, 9, none⟩ tv').heap[k]? = w3.heap[k]? := fun k h1 h2 =>
    (s89 k (by omega)).trans ((hb8.block k (by omega)).trans ((s67 k (by omega)).trans ((hb6.block k (by omega)).trans ((s45 k (by omega)).trans (hb4.block k h2)))))
  refine ⟨cell_of w8 _ 9 _ 54 _ b8 rfl, frozen_of w8 _ 9 _ 54 b8, ⟨v, w3.heap.size, w5.heap.size, gs, tv', ?_⟩, ?_⟩
  · have hRB := h.banks.kept (W' := w8.setCell ⟨w.heap.size, 9, none⟩ tv') fun i hi hl => kk i (by omega) hl
    have hmem : ∀ y ∈ gs, w.heap.size + 1 ≤ y.1 ∧ y.1 < w3.heap.size := by
      intro y hy
      obtain ⟨i, hi, e⟩ := List.mem_iff_getElem.1 hy
      have hb' : i < bs.length := by rw [← h.banks.len]; exact hi
      have hd := h.banks.dat i bs[i] y (List.getElem?_eq_getElem hb') (by rw [List.getElem?_eq_getElem hi, e])
      exact ⟨hd.2.2.2, lt_of hd.1⟩
    refine ⟨b9, ⟨hRB.len, own_mono hRB.row (Nat.zero_le _), fun i t g a c => by obtain ⟨x1, x2, x3, _⟩ := hRB.dat i t g a c; exact ⟨x1, x2, x3, Nat.zero_le _⟩, hRB.nd⟩, ?_, ?_, padN_len _ _ rl, padN_len _ _ sl, ?_, ?_, ?_, by omega, Nat.le_refl _, ?_, ?_, Nat.le_of_lt hs, show w.heap.size ≤ w5.heap.size by omega, ?_⟩
    · exact (s89 _ (by omega)).trans ((hb8.block _ (by omega)).trans ((s67 _ (by omega)).trans ((hb6.block _ (by omega)).trans ((s45 _ (by omega)).trans h4))))
    · exact (s89 _ (by omega)).trans ((hb8.block _ (by omega)).trans ((s67 _ (by omega)).trans h6))
    · exact own_mono (own_kept ht8 fun g e _ => s89 g (by have := (ht8.lt g e).1; omega)) (Nat.zero_le _)
    · intro y hy; have := hmem y hy; omega
    · intro y hy; have := hmem y hy; omega
    · intro g e; have := (h.banks.row.lt g e).1; show w.heap.size ≤ g; omega
    · intro y hy; have := hmem y hy; show w.heap.size ≤ y.1; omega
    · intro g e; have := (ht8.lt g e).1; show w.heap.size ≤ g; omega
  · have hb3 := h.bel
    have t4 := hb3.trans (hb4.mono (by omega))
    have t5 : Below w.heap.size w w5 := by rw [e5]; exact t4.setCell (p := ⟨w.heap.size, 1, none⟩) (Nat.le_refl _) _
    have t6 := t5.trans (hb6.mono (by omega))
    have t7 : Below w.heap.size w w7 := by rw [e7]; exact t6.setCell (p := ⟨w.heap.size, 2, none⟩) (Nat.le_refl _) _
    have t8 := t7.trans (hb8.mono (by omega))
    exact t8.setCell (p := ⟨w.heap.size, 9, none⟩) (Nat.le_refl _) _
theorem padB_snoc (bs : List (Int × List UInt8)) (t : Int × List UInt8) : padB (bs ++ [t]) = padB bs ++ [(t.1, padN 16384 t.2)] := by simp [padB]
end Go.Proofs.YtgponcjjnjpfkabGreat.M
/-! Image. -/
namespace Go.Proofs.YtgponcjjnjpfkabGreat.M
open Go.RowKit
open Go.Proofs
set_option linter.unusedVariables false
set_option linter.unusedSimpArgs false
/-- What an image holds, in new memory: nothing of it shares a block. -/
structure ImO (W : World) (B : Nat) (u rv sv : Value) (bs : List (Int × List UInt8)) (ram scr : List UInt8) (gs : List (Nat × Nat)) (N1 N2 : Nat) : Prop where
  banks : OI W B u bs gs
  ram : Row W N1 rv ram
  scr : Row W N2 sv scr
  b1 : B ≤ N1
  g1 : ∀ y ∈ gs, y.1 < N1
  o1 : ∀ g, u.ownBlock = some g → g < N1
  r1 : ∀ g, rv.ownBlock = some g → g < N2
  n12 : N1 ≤ N2
theorem OI.mem_lt {W : World} {B : Nat} {v : Value} {bs : List (Int × List UInt8)} {gs : List (Nat × Nat)} (h : OI W B v bs gs) (y : Nat × Nat) (hy : y ∈ gs) : y.1 < W.heap.size := by
  obtain ⟨i, hi, e⟩ := List.mem_iff_getElem.1 hy
  have hb' : i < bs.length := by rw [← h.len]; exact hi
  exact ((h.dat i bs[i] y (List.getElem?_eq_getElem hb') (by rw [List.getElem?_eq_getElem hi, e])).lt y.1 rfl).2
theorem cell_far (W : World) (N i : Nat) (v : Value) (b j : Nat) (h : b ≠ N) : (W.setCell ⟨N, i, none⟩ v).cell? ⟨b, j, none⟩ = W.cell? ⟨b, j, none⟩ :=
  World.cell?_of_block (w := W) (setCell_other W N i b v h)
theorem own_form {w : World} {B : Nat} {e : TypeId} {size : Nat} {v : Value} {n : Nat} {xs : List Value} (h : w.ownsRow B e size v n xs) : ∃ p cap, v = .slice p n cap := by
  rcases h.2 with ⟨h, e⟩ | ⟨g, cap, cur, h1, _⟩
  · exact ⟨none, 0, by rw [h, e]⟩
  · exact ⟨_, cap, h1⟩
def imgC (u rv sv : Value) (m : MS) : List Value := [u, rv, sv, .int .u8 m.ch, .int .u8 m.pad, .int .u16 m.pitch, .int .u8 m.vol, .int .u16 m.time]
/-- The eight cells of an image, stored one by one. -/
def st8 (W : World) (N : Nat) (u rv sv : Value) (m : MS) : World :=
  (((((((W.setCell ⟨N, 0, none⟩ u).setCell ⟨N, 1, none⟩ rv).setCell ⟨N, 2, none⟩ sv).setCell ⟨N, 3, none⟩ (.int .u8 m.ch)).setCell ⟨N, 4, none⟩ (.int .u8 m.pad)).setCell ⟨N, 5, none⟩ (.int .u16 m.pitch)).setCell ⟨N, 6, none⟩ (.int .u8 m.vol)).setCell ⟨N, 7, none⟩ (.int .u16 m.time)
theorem st8_heap (W : World) (N : Nat) (u rv sv : Value) (m : MS) (c : List Value) (t : TypeId) (hc : c.length = 8) (h : W.heap[N]? = some (.cells c.toArray t (0, 0))) : (st8 W N u rv sv m).heap[N]? = some (.cells (imgC u rv sv m).toArray t (0, 0)) := by
  unfold st8
  match c, hc with
  | [a0, a1, a2, a3, a4, a5, a6, a7], _ =>
    have h1 := setCell_heap _ _ 0 _ _ u h
    have h2 := setCell_heap _ _ 1 _ _ rv h1
    have h3 := setCell_heap _ _ 2 _ _ sv h2
    have h4 := setCell_heap _ _ 3 _ _ (.int .u8 m.ch) h3
    have h5 := setCell_heap _ _ 4 _ _ (.int .u8 m.pad) h4
    have h6 := setCell_heap _ _ 5 _ _ (.int .u16 m.pitch) h5
    have h7 := setCell_heap _ _ 6 _ _ (.int .u8 m.vol) h6
    have h8 := setCell_heap _ _ 7 _ _ (.int .u16 m.time) h7
    rw [h8]; rfl
theorem st8_other (W : World) (N k : Nat) (u rv sv : Value) (m : MS) (h : k ≠ N) : (st8 W N u rv sv m).heap[k]? = W.heap[k]? := by
  unfold st8
  simp only [setCell_other _ N _ k _ h]
theorem st8_size (W : World) (N : Nat) (u rv sv : Value) (m : MS) : (st8 W N u rv sv m).heap.size = W.heap.size := by
  unfold st8; simp only [setCell_size]
theorem st8_below (W : World) (N : Nat) (u rv sv : Value) (m : MS) {B : Nat} {W0 : World} (h : Below B W0 W) (hN : B ≤ N) : Below B W0 (st8 W N u rv sv m) :=
  have e1 : ∀ (W : World) a v, (W.setCell a v).os = W.os := fun _ _ _ => rfl
  have e2 : ∀ (W : World) a v, (W.setCell a v).tape = W.tape := fun _ _ _ => rfl
  have e3 : ∀ (W : World) a v, (W.setCell a v).output = W.output := fun _ _ _ => rfl
  ⟨by simp only [st8, e1]; exact h.os, by simp only [st8, e2]; exact h.tape, by simp only [st8, e3]; exact h.output, by rw [st8_size]; exact h.size, fun k hk => (st8_other W N k u rv sv m (by omega)).trans (h.block k hk)⟩
theorem image_end (w w1 w2 w3 w4 : World) (m : MS) (p2 : Option Addr) (cp2 g3 cp3 g4 cp4 : Nat) (gs : List (Nat × Nat)) (hb1 : Below w.heap.size w w1) (hz1 : w1.heap.size = w.heap.size + 1)
    (hb2 : Below w1.drew.heap.size w1.drew w2) (hb3 : Below w2.heap.size w2 w3) (hb4 : Below w3.heap.size w3 w4) (hO2 : OI w2 w1.drew.heap.size (.slice p2 (inO m 16).length cp2) (inO m 16) gs)
    (hO3 : Row w3 w2.heap.size (.slice (some ⟨g3, 0, none⟩) m.ram.length cp3) m.ram) (hO4 : Row w4 w3.heap.size (.slice (some ⟨g4, 0, none⟩) m.scr.length cp4) m.scr)
    (hr1 : w1.heap[w.heap.size]? = some (.cells [.slice none 0 0, .slice none 0 0, .slice none 0 0, .int .u8 0, .int .u8 0, .int .u16 0, .int .u8 0, .int .u16 0].toArray 108 (0, 0))) :
    (st8 w4 w.heap.size (.slice p2 (inO m 16).length cp2) (.slice (some ⟨g3, 0, none⟩) m.ram.length cp3) (.slice (some ⟨g4, 0, none⟩) m.scr.length cp4) m).heap[w.heap.size]? = some (.cells (imgC (.slice p2 (inO m 16).length cp2) (.slice (some ⟨g3, 0, none⟩) m.ram.length cp3) (.slice (some ⟨g4, 0, none⟩) m.scr.length cp4) m).toArray 108 (0, 0)) ∧
    ImO (st8 w4 w.heap.size (.slice p2 (inO m 16).length cp2) (.slice (some ⟨g3, 0, none⟩) m.ram.length cp3) (.slice (some ⟨g4, 0, none⟩) m.scr.length cp4) m) w.heap.size (.slice p2 (inO m 16).length cp2) (.slice (some ⟨g3, 0, none⟩) m.ram.length cp3) (.slice (some ⟨g4, 0, none⟩) m.scr.length cp4) (inO m 16) m.ram m.scr gs w2.heap.size w3.heap.size ∧
    Below w.heap.size w (st8 w4 w.heap.size (.slice p2 (inO m 16).length cp2) (.slice (some ⟨g3, 0, none⟩) m.ram.length cp3) (.slice (some ⟨g4, 0, none⟩) m.scr.length cp4) m) := by
  have z1 : w1.drew.heap.size = w.heap.size + 1 := hz1
  have z2 := hb2.size
  have z3 := hb3.size
  have z4 := hb4.size
  have hr4 : w4.heap[w.heap.size]? = some (.cells [.slice none 0 0, .slice none 0 0, .slice none 0 0, .int .u8 0, .int .u8 0, .int .u16 0, .int .u8 0, .int .u16 0].toArray 108 (0, 0)) :=
    (hb4.block _ (by omega)).trans ((hb3.block _ (by omega)).trans ((hb2.block _ (by omega)).trans hr1))
  generalize hu : Value.slice p2 (inO m 16).length cp2 = u at *
  generalize hrv : Value.slice (some ⟨g3, 0, none⟩) m.ram.length cp3 = rv at *
  generalize hsv : Value.slice (some ⟨g4, 0, none⟩) m.scr.length cp4 = sv at *
  have far : ∀ k, w.heap.size < k → (st8 w4 w.heap.size u rv sv m).heap[k]? = w4.heap[k]? := fun k hk => st8_other w4 w.heap.size k u rv sv m (by omega)
  have hB4 : Below w.heap.size w w4 := ((hb1.trans (by exact ⟨hb2.os, hb2.tape, hb2.output, by rw [z1] at z2; omega, fun k hk => hb2.block k (by omega)⟩)).trans (hb3.mono (by omega))).trans (hb4.mono (by omega))
  refine ⟨st8_heap w4 _ u rv sv m _ 108 rfl hr4, ⟨?_, ?_, ?_, by omega, fun y hy => hO2.mem_lt y hy, fun g e => (hO2.row.lt g e).2, fun g e => (hO3.lt g e).2, z3⟩, st8_below w4 _ u rv sv m hB4 (Nat.le_refl _)⟩
  · have := hO2.kept (W' := st8 w4 w.heap.size u rv sv m) fun i hi hl => (far i (by omega)).trans ((hb4.block i (by omega)).trans (hb3.block i hl))
    exact ⟨this.len, own_mono this.row (by omega), fun i t g a c => Row.mono (this.dat i t g a c) (by omega), this.nd⟩
  · exact hO3.kept fun g e hg => (far g (by have := (hO3.lt g e).1; omega)).trans (hb4.block g hg)
  · exact hO4.kept fun g e hg => far g (by have := (hO4.lt g e).1; omega)
end Go.Proofs.YtgponcjjnjpfkabGreat.M
/-! What a write changes, and what it does not. -/
namespace Go.Proofs.YtgponcjjnjpfkabGreat.M
open Go.Proofs
set_option linter.unusedVariables false
set_option linter.unusedSimpArgs false
theorem lb_set (l : List UInt8) (i j : Nat) (x : UInt8) (h : i < l.length) : lb (l.set i x) j = if i = j then bt x else lb l j := by
  unfold lb bt
  simp only [List.getD_eq_getElem?_getD, List.getElem?_set]
  by_cases e : i = j
  · subst e; simp [h]
  · simp [e]
theorem st_pad (m : MS) (z : Int) (x : UInt8) : (st m z x).pad = m.pad := by
  unfold st stp; repeat' split
  all_goals rfl
theorem st_time (m : MS) (z : Int) (x : UInt8) : (st m z x).time = m.time := by
  unfold st stp; repeat' split
  all_goals rfl
theorem st_ch (m : MS) (z : Int) (x : UInt8) (h : z ≠ 65280) : (st m z x).ch = m.ch := by
  unfold st stp; repeat' split
  all_goals first | rfl | (exfalso; omega)
theorem st_low_tones (m : MS) (z : Int) (x : UInt8) (h : z < 65280) : (st m z x).tones = m.tones := by
  unfold st stp; repeat' split
  all_goals first | rfl | (exfalso; omega)
theorem st_banks (m : MS) (z : Int) (x : UInt8) (n : Nat) (l : List UInt8) (h : m.banks n = some l) : ∃ l', (st m z x).banks n = some l' := by
  unfold st stp
  split
  · exact ⟨l, h⟩
  split
  · split
    · exact ⟨l, h⟩
    · simp only [upd]; split
      · exact ⟨_, rfl⟩
      · exact ⟨l, h⟩
  repeat' split
  all_goals exact ⟨l, h⟩
theorem ld_low (m : MS) (z : Int) (h : z < 16384) : ld m z = 0 := by unfold ld; rw [if_pos h]
theorem ld_same (m : MS) (hw : Wf m) (z : Int) (x : UInt8) (h0 : 16384 ≤ z) (h1 : z < 52224) (hb : z < 32768 → ∃ l, m.banks m.ch.toNat = some l) : ld (st m z x) z = bt x := by
  have a1 : ¬ z < 16384 := by omega
  by_cases a2 : z < 32768
  · obtain ⟨l, hl⟩ := hb a2
    have hll := (hw.bk _ _ hl).2
    simp only [st, ld, a1, a2, if_true, if_false, hl, upd]
    rw [lb_set _ _ _ _ (by omega), if_pos rfl]
  by_cases a3 : z < 49152
  · simp only [st, ld, a1, a2, a3, if_true, if_false]
    rw [lb_set _ _ _ _ (by rw [hw.ram]; omega), if_pos rfl]
  · simp only [st, ld, a1, a2, a3, h1, if_true, if_false]
    rw [lb_set _ _ _ _ (by rw [hw.scr]; omega), if_pos rfl]
theorem ld_stp (m : MS) (z o : Int) (x : UInt8) (ho : o < 65280) (hn : ¬ (z = 65280 ∧ 16384 ≤ o ∧ o < 32768)) : ld (stp m z x) o = ld m o := by
  unfold stp
  by_cases c0 : z = 65280
  · rw [if_pos c0]
    unfold ld
    by_cases a1 : o < 16384
    · simp only [a1, if_true]
    by_cases a2 : o < 32768
    · exact absurd ⟨c0, by omega, a2⟩ hn
    simp only [a1, a2, if_false]
    split
    · rfl
    split
    · rfl
    rw [pt_low _ o ho, pt_low _ o ho]
  rw [if_neg c0]
  have hp : ∀ m' : MS, m'.ram = m.ram → m'.scr = m.scr → m'.ch = m.ch → m'.banks = m.banks → ld m' o = ld m o := by
    intro m' e1 e2 e3 e4
    unfold ld
    rw [e1, e2, e3, e4, pt_low m' o ho, pt_low m o ho]
  repeat' split
  all_goals first | exact hp _ rfl rfl rfl rfl | rfl
theorem ld_other (m : MS) (hw : Wf m) (z o : Int) (x : UInt8) (h0 : 0 ≤ z) (ho0 : 0 ≤ o) (ho : o < 65280) (hne : o ≠ z) (hn : ¬ (z = 65280 ∧ 16384 ≤ o ∧ o < 32768)) : ld (st m z x) o = ld m o := by
  by_cases a1 : z < 16384
  · simp only [st, a1, if_true]
  by_cases a2 : z < 32768
  · simp only [st, a1, a2, if_true, if_false]
    cases hb : m.banks m.ch.toNat with
    | none => rfl
    | some l =>
      have hll := (hw.bk _ _ hb).2
      simp only [ld, upd, if_true, hb]
      by_cases b1 : o < 16384
      · simp only [b1, if_true]
      by_cases b2 : o < 32768
      · simp only [b1, b2, if_true, if_false]
        rw [lb_set _ _ _ _ (by omega), if_neg (by omega)]
      simp only [b1, b2, if_false]
      rfl
  by_cases a3 : z < 49152
  · simp only [st, a1, a2, a3, if_true, if_false]
    unfold ld
    by_cases b1 : o < 16384
    · simp only [b1, if_true]
    by_cases b2 : o < 32768
    · simp only [b1, b2, if_true, if_false]; try rfl
    by_cases b3 : o < 49152
    · simp only [b1, b2, b3, if_true, if_false]
      rw [lb_set _ _ _ _ (by rw [hw.ram]; omega), if_neg (by omega)]
    simp only [b1, b2, b3, if_false]
    rfl
  by_cases a4 : z < 52224
  · simp only [st, a1, a2, a3, a4, if_true, if_false]
    unfold ld
    by_cases b1 : o < 16384
    · simp only [b1, if_true]
    by_cases b2 : o < 32768
    · simp only [b1, b2, if_true, if_false]; try rfl
    by_cases b3 : o < 49152
    · simp only [b1, b2, b3, if_true, if_false]; try rfl
    by_cases b4 : o < 52224
    · simp only [b1, b2, b3, b4, if_true, if_false]
      rw [lb_set _ _ _ _ (by rw [hw.scr]; omega), if_neg (by omega)]
    simp only [b1, b2, b3, b4, if_false]
    rfl
  simp only [st, a1, a2, a3, a4, if_false]
  exact ld_stp m z o x ho hn
/-- What holds of the memory all the while. -/
structure Inv (some_ : Prop) (m : MS) : Prop where
  tones : m.tones = []
  pad : m.pad = 77
  time : m.time = 1
  bank : some_ → ∃ l, m.banks m.ch.toNat = some l
theorem Inv.st {s : Prop} {m : MS} (h : Inv s m) (z : Int) (x : UInt8) (hz : z < 65280) : Inv s (st m z x) := by
  refine ⟨(st_low_tones m z x hz).trans h.tones, (st_pad m z x).trans h.pad, (st_time m z x).trans h.time, fun hs => ?_⟩
  obtain ⟨l, hl⟩ := h.bank hs
  rw [st_ch m z x (by omega)]
  exact st_banks m z x _ l hl
theorem ld_pad (m : MS) : ld m 65282 = m.pad := by simp [ld, pt]
theorem ld_time (m : MS) : ld m 65288 = m.time % 256 := by simp [ld, pt]
end Go.Proofs.YtgponcjjnjpfkabGreat.M
/-! The reference's memory: bank, Load. -/
namespace Go.Proofs.YtgponcjjnjpfkabGreat.M
open Go.RowKit
open Go.Proofs
set_option linter.unusedVariables false
set_option linter.unusedSimpArgs false
theorem RB.mem {W : World} {B : Nat} {v : Value} {bs : List (Int × List UInt8)} {gs : List (Nat × Nat)} (h : RB W B v bs gs) (y : Nat × Nat) (hy : y ∈ gs) : ∃ l, B5 W y.1 l ∧ B ≤ y.1 := by
  obtain ⟨i, hi, e⟩ := List.mem_iff_getElem.1 hy
  have hb' : i < bs.length := by rw [← h.len]; exact hi
  have := h.dat i bs[i] y (List.getElem?_eq_getElem hb') (by rw [List.getElem?_eq_getElem hi, e])
  exact ⟨_, this.1, this.2.2.2⟩
theorem MemR.kept {W W' : World} {F : Nat → Prop} {b : Nat} {bs : List (Int × List UInt8)} {m : MS} {u : Value} {gr gc : Nat} {gs : List (Nat × Nat)} {tv : Value} (h : MemR W F b bs m u gr gc gs tv) (k : ∀ i, i < W.heap.size → F i → W'.heap[i]? = W.heap[i]?) : MemR W' F b bs m u gr gc gs tv :=
  { h with
    blk := (k _ (lt_of h.blk) h.fb).trans h.blk
    banks := ⟨h.banks.len, own_kept h.banks.row fun g e hg => k g hg (h.fu g e), fun i t g a c => by
      obtain ⟨x1, x2, x3, x4⟩ := h.banks.dat i t g a c
      exact ⟨(k _ (lt_of x1) (h.fg g (List.mem_of_getElem? c))).trans x1, x2, x3, x4⟩, h.banks.nd⟩
    ram := (k _ (lt_of h.ram) h.fr).trans h.ram
    scr := (k _ (lt_of h.scr) h.fc).trans h.scr
    tones := own_kept h.tones fun g e hg => k g hg (h.ft g e) }
theorem MemR.mono {W : World} {F G : Nat → Prop} {b : Nat} {bs : List (Int × List UInt8)} {m : MS} {u : Value} {gr gc : Nat} {gs : List (Nat × Nat)} {tv : Value} (h : MemR W F b bs m u gr gc gs tv) (k : ∀ i, i < W.heap.size → F i → G i) : MemR W G b bs m u gr gc gs tv :=
  { h with
    fb := k _ (lt_of h.blk) h.fb
    fu := fun g e => k _ (h.banks.row.lt g e).2 (h.fu g e)
    fg := fun y hy => by obtain ⟨l, e, _⟩ := h.banks.mem y hy; exact k _ (lt_of e) (h.fg y hy)
    fr := k _ (lt_of h.ram) h.fr
    fc := k _ (lt_of h.scr) h.fc
    ft := fun g e => k _ (h.tones.lt g e).2 (h.ft g e) }
/-- The reference's memory and the state that it stands for. -/
def IsR (W : World) (F : Nat → Prop) (b : Nat) (m : MS) : Prop := Wf m ∧ HasR W F b (inO m 16) m
theorem IsR.kept {W W' : World} {F : Nat → Prop} {b : Nat} {m : MS} (h : IsR W F b m) (k : ∀ i, i < W.heap.size → F i → W'.heap[i]? = W.heap[i]?) : IsR W' F b m := by
  obtain ⟨hw, u, gr, gc, gs, tv, h⟩ := h; exact ⟨hw, u, gr, gc, gs, tv, h.kept k⟩
theorem IsR.mono {W : World} {F G : Nat → Prop} {b : Nat} {m : MS} (h : IsR W F b m) (k : ∀ i, i < W.heap.size → F i → G i) : IsR W G b m := by
  obtain ⟨hw, u, gr, gc, gs, tv, h⟩ := h; exact ⟨hw, u, gr, gc, gs, tv, h.mono k⟩
theorem IsR.below {W W' : World} {F : Nat → Prop} {b : Nat} {m : MS} (h : IsR W F b m) (k : Below W.heap.size W W') : IsR W' F b m := h.kept fun i hi _ => k.block i hi
/-- Where a bank stands in the list. -/
theorem inO_mem (m : MS) (n : Nat) (l : List UInt8) : ∀ k : Nat, (((n : Int), l) ∈ inO m k ↔ n < k ∧ m.banks n = some l)
  | 0 => by simp [inO]
  | k + 1 => by
    have ih := inO_mem m n l k
    cases hb : m.banks k with
    | none =>
      rw [inO_none m k hb, ih]
      constructor
      · rintro ⟨a, c⟩; exact ⟨by omega, c⟩
      · rintro ⟨a, c⟩
        refine ⟨?_, c⟩
        by_cases e : n = k
        · subst e; rw [hb] at c; cases c
        · omega
    | some x =>
      rw [inO_some m k x hb, List.mem_append, ih]
      constructor
      · rintro (⟨a, c⟩ | h)
        · exact ⟨by omega, c⟩
        · simp at h; obtain ⟨e, rfl⟩ := h; have : n = k := by omega
          subst this; exact ⟨by omega, hb⟩
      · rintro ⟨a, c⟩
        by_cases e : n = k
        · subst e; rw [hb] at c; cases c; right; simp
        · left; exact ⟨by omega, c⟩
theorem inO_fst (m : MS) (k : Nat) (t : Int × List UInt8) (h : t ∈ inO m k) : ∃ n : Nat, t.1 = (n : Int) := by
  simp only [inO, List.mem_filterMap] at h
  obtain ⟨n, _, e⟩ := h
  cases hb : m.banks n with
  | none => rw [hb] at e; simp at e
  | some x => rw [hb] at e; simp at e; exact ⟨n, by rw [← e]⟩
set_option maxHeartbeats 2000000
set_option maxRecDepth 100000
/-- bank: the first whose number is the chosen one. -/
theorem rbank_any (b : Nat) (bs : List (Int × List UInt8)) (w : World) {F : Nat → Prop} {m : MS} {u : Value} {gr gc : Nat} {gs : List (Nat × Nat)} {tv : Value} (h : MemR w F b bs m u gr gc gs tv) (c0 : 0 ≤ m.ch) (c1 : m.ch < 16) (hl : bs.length ≤ 16) :
    Calls Tryz.prog 35 #[.pointer (some ⟨b, 0, none⟩)] w fun e w' => Below w.heap.size w w' ∧ ((e = .returned (.slice none 0 0) ∧ ∀ t ∈ bs, t.1 ≠ m.ch) ∨ ∃ (i : Nat) (t : Int × List UInt8) (g : Nat × Nat), bs[i]? = some t ∧ gs[i]? = some g ∧ t.1 = m.ch ∧ e = .returned (.slice (some ⟨g.1, 0, none⟩) 16384 16384)) := by
  obtain ⟨pu, cu, rfl⟩ := own_form h.banks.row
  have k0 := cell_of w b 0 _ 54 _ h.blk rfl
  have HH : Hid _ := h
  clear h
  go_enter Tryz.func35, Tryz.ntmps35
  go_wp2
  go_loopw [10] (fun i wr => ∃ k : Nat, k ≤ bs.length ∧ i = .int .i64 (k : Int) ∧ Below w.heap.size w wr ∧ ∀ (j : Nat) t, j < k → bs[j]? = some t → t.1 ≠ m.ch) (fun i _ => bs.length - (intOf i).toNat)
  case atStart => exact ⟨0, by omega, rfl, Below.refl _ _, fun j t hj => by omega⟩
  case round =>
    obtain ⟨k, hk, rfl, hB, hN⟩ := hrel
    have h2 := HH.out.kept (W' := wr) fun i hi _ => hB.block i hi
    by_cases hlt : k < bs.length
    · have i1 : (k : Int) < bs.length := by omega
      have hkg : k < gs.length := by rw [h2.banks.len]; exact hlt
      obtain ⟨g0, cp, rfl, rfl⟩ := (show ∃ g c, pu = some ⟨g, 0, none⟩ ∧ c = cu from by
        rcases h2.banks.row.2 with ⟨e, e2⟩ | ⟨g, cap, cur, e, _⟩
        · omega
        · simp only [Value.slice.injEq] at e; exact ⟨g, cu, e.1, rfl⟩)
      obtain ⟨e1, e2⟩ := bcs_get bs gs k bs[k] gs[k] (List.getElem?_eq_getElem hlt) (List.getElem?_eq_getElem hkg)
      have a1 := World.ownsRow.cells h2.banks.row (g := g0) rfl _ _ e1
      have a2 := World.ownsRow.cells h2.banks.row (g := g0) rfl _ _ e2
      rw [Addr.add_lit, Nat.zero_add] at a1 a2
      obtain ⟨d1, d2, d3, _⟩ := h2.banks.dat k bs[k] gs[k] (List.getElem?_eq_getElem hlt) (List.getElem?_eq_getElem hkg)
      rw [d2, d3] at a2
      have hch := cell_of wr b 3 _ 54 _ h2.blk rfl
      have hB2 : Below w.heap.size w (wr.alloc (.cells #[.int .i64 (bs[k]).1, .slice (some ⟨(gs[k]).1, 0, none⟩) 16384 16384] 72)).drew := (hB.alloc hB.size _).drew
      have hE : Below w.heap.size w (wr.alloc (.cells #[.int .i64 (bs[k]).1, .slice (some ⟨(gs[k]).1, 0, none⟩) 16384 16384] 72)) := hB.alloc hB.size _
      have hbs := List.getElem?_eq_getElem hlt
      have hgs := List.getElem?_eq_getElem hkg
      have hbw : b < wr.heap.size := lt_of h2.blk
      have hch2 : (wr.alloc (.cells #[.int .i64 (bs[k]).1, .slice (some ⟨(gs[k]).1, 0, none⟩) 16384 16384] 72)).cell? ⟨b, 3, none⟩ = some (.int .u8 m.ch) := (World.cell?_of_block (w := wr) (Below.heap_alloc wr _ b hbw)).trans hch
      have e64 : IntKind.i64.wrap m.ch = m.ch := by simp [IntKind.wrap, IntKind.bits, IntKind.signed]; omega
      generalize hT : bs[k] = t at *
      generalize hG : gs[k] = g at *
      have HN : Hid _ := hN
      have HB2 : Hid _ := hB2
      have HE : Hid _ := hE
      have HBS : Hid _ := hbs
      have HGS : Hid _ := hgs
      clear hN hB2 hE hbs hgs h2 d1 d2 d3 e1 e2 hB hT hG
      by_cases q : t.1 = m.ch
      · have q1 : (t.1 == m.ch) = true := by simpa using q
        have HQ : Hid _ := q
        clear q
        go_wp2_with fail
        go_quiet (fail)
        go_wp2
        go_ret
        exact ⟨⟨HE.out.os, HE.out.tape, HE.out.output, HE.out.size, HE.out.block⟩, .inr ⟨k, t, g, HBS.out, HGS.out, HQ.out, rfl⟩⟩
      · have q1 : (t.1 == m.ch) = false := by simpa using q
        have hN2 : ∀ (j : Nat) x, j < k + 1 → bs[j]? = some x → x.1 ≠ m.ch := by
          intro j x hj hx
          by_cases e : j = k
          · subst e; rw [HBS.out] at hx; cases hx; exact q
          · exact HN.out j x (by omega) hx
        have HN2 : Hid _ := hN2
        clear q hN2 HN HBS HGS
        go_wp2_with fail
        go_quiet (fail)
        go_wp2
        go_roundw
        case rel =>
          first
            | exact ⟨k + 1, by omega, by go_num, ⟨HE.out.os, HE.out.tape, HE.out.output, HE.out.size, HE.out.block⟩, HN2.out⟩
            | ((repeat apply Exists.intro); refine ⟨⟨k + 1, by omega, ?_, ⟨HE.out.os, HE.out.tape, HE.out.output, HE.out.size, HE.out.block⟩, HN2.out⟩, rfl⟩; go_num)
        case measure => simp [intOf]; omega
    · obtain rfl : k = bs.length := by omega
      go_wp2
      go_ret
      refine ⟨hB, .inl ⟨rfl, fun t ht => ?_⟩⟩
      obtain ⟨j, hj, e⟩ := List.mem_iff_getElem.1 ht
      exact hN j t hj (by rw [List.getElem?_eq_getElem hj, e])
end Go.Proofs.YtgponcjjnjpfkabGreat.M
