import Derived.Test.YtcnhfgoflfnocaaStacks
/-! The reference's data stack. -/
namespace Go.Proofs.Ytcnhfgoflfnocaa
open Go.RowKit
open Go.Proofs
set_option linter.unusedVariables false
set_option linter.unusedSimpArgs false
/-- Nothing below B is touched, and of what lies above only blocks of these types. -/
structure KT (S : TypeId → Prop) (B : Nat) (W W' : World) : Prop where
  bel : Below B W W'
  typ : ∀ (k : Nat) c t x, W.heap[k]? = some (.cells c t x) → ¬ S t → W'.heap[k]? = some (.cells c t x)
theorem KT.refl (S : TypeId → Prop) (B : Nat) (W : World) : KT S B W W := ⟨Below.refl _ _, fun _ _ _ _ h _ => h⟩
theorem KT.trans {S : TypeId → Prop} {B : Nat} {a b c : World} (h : KT S B a b) (k : KT S B b c) : KT S B a c := ⟨h.bel.trans k.bel, fun i cs t x e n => k.typ i cs t x (h.typ i cs t x e n) n⟩
theorem KT.mono {S T : TypeId → Prop} {B : Nat} {a b : World} (h : KT S B a b) (k : ∀ t, S t → T t) : KT T B a b := ⟨h.bel, fun i cs t x e n => h.typ i cs t x e fun s => n (k t s)⟩
theorem KT.of {S : TypeId → Prop} {B : Nat} {a b : World} (h : Below a.heap.size a b) (hB : B ≤ a.heap.size) : KT S B a b := ⟨h.mono hB, fun i cs t x e _ => (h.block i (lt_of e)).trans e⟩
theorem KT.at {S : TypeId → Prop} {B b : Nat} {W W' : World} {c : Array Value} {t : TypeId} {x : Nat × Nat} (h : At b W W') (hb : W.heap[b]? = some (.cells c t x)) (hS : S t) (hB : B ≤ b) : KT S B W W' :=
  ⟨h.below hB (by have := lt_of hb; omega), fun i cs t' x' e n => (h.block i (lt_of e) (by rintro rfl; rw [hb] at e; injection e with e; injection e with e1 e2 e3; subst e2; exact n hS)).trans e⟩
theorem KT.own {S : TypeId → Prop} {B : Nat} {W W' : World} (h : KT S B W W') {B' : Nat} {e : TypeId} {size : Nat} {v : Value} {n : Nat} {xs : List Value} (ho : W.ownsRow B' e size v n xs) (he : ¬ S e) : W'.ownsRow B' e size v n xs := by
  refine ⟨ho.1, ?_⟩
  rcases ho.2 with ho | ⟨g, cap, cur, rfl, h2, h3, h4⟩
  · exact .inl ho
  · exact .inr ⟨g, cap, cur, rfl, h2, h.typ _ _ _ _ h3 he, h4⟩
theorem At.drew {b : Nat} {W W' : World} (h : At b W W') : At b W W'.drew := Tc.drew h
/-- The reference's data stack. -/
structure EV (W : World) (B be : Nat) (ev : Value) (D : List Int) : Prop where
  blk : W.heap[be]? = some (.cells [ev].toArray 63 (0, 0))
  row : RowU W B ev D
  hb : B ≤ be
  len : D.length ≤ 256
theorem EV.kt {S : TypeId → Prop} {B0 : Nat} {W W' : World} {B be : Nat} {ev : Value} {D : List Int} (h : EV W B be ev D) (k : KT S B0 W W') (h1 : ¬ S 63) (h2 : ¬ S 32) : EV W' B be ev D :=
  ⟨k.typ _ _ _ _ h.blk h1, k.own h.row h2, h.hb, h.len⟩
/-- The new list lies where the old one lay, or in new memory. -/
def Nw (w : World) (v v' : Value) : Prop := ∀ g, v'.ownBlock = some g → v.ownBlock = some g ∨ w.heap.size ≤ g
/-- An own row cut to its beginning. -/
theorem own_cut {W : World} {B : Nat} {e : TypeId} {size : Nat} {g n cap : Nat} {xs : List Value} (h : W.ownsRow B e size (.slice (some ⟨g, 0, none⟩) n cap) n xs) (m : Nat) (hm : m ≤ n) : W.ownsRow B e size (.slice (some ⟨g, 0, none⟩) m cap) m (xs.take (m * size)) := by
  rcases h.2 with ⟨h, _⟩ | ⟨g', cap', cur, h1, h2, h3, h4, h5, h6, h7⟩
  · cases h
  · simp only [Value.slice.injEq, Option.some.injEq, Addr.mk.injEq, true_and, and_true] at h1
    obtain ⟨rfl, rfl⟩ := h1
    have hl := h.1
    have hms : m * size ≤ n * size := Nat.mul_le_mul_right _ hm
    refine ⟨by rw [List.length_take, hl]; omega, .inr ⟨g, cap, cur, rfl, h2, h3, by omega, h5, h6, ?_⟩⟩
    rw [← h7, List.take_take, Nat.min_eq_left hms]
theorem rowU_pos {W : World} {B : Nat} {v : Value} {l : List Int} (h : RowU W B v l) (h0 : 0 < l.length) : ∃ g cap, v = .slice (some ⟨g, 0, none⟩) l.length cap ∧ B ≤ g ∧ l.length ≤ cap := by
  rcases h.2 with ⟨_, h⟩ | ⟨g, cap, cur, h1, h2, h3, h4, _⟩
  · omega
  · exact ⟨g, cap, h1, h2, h4⟩
theorem ex_slice {W : World} {B : Nat} {e : TypeId} {size : Nat} {v : Value} {n : Nat} {xs : List Value} (h : W.ownsRow B e size v n xs) : ∃ p c, v = .slice p n c := by
  rcases h.2 with ⟨rfl, h'⟩ | ⟨g, cap, cur, h1, _⟩
  · exact ⟨none, 0, by rw [h']⟩
  · exact ⟨_, _, h1⟩
theorem own_ne {W : World} {B : Nat} {e : TypeId} {size : Nat} {v : Value} {n : Nat} {xs : List Value} (h : W.ownsRow B e size v n xs) {b : Nat} {c : Array Value} {t : TypeId} {x : Nat × Nat} (hb : W.heap[b]? = some (.cells c t x)) (ht : t ≠ e) : ∀ g, v.ownBlock = some g → g ≠ b := by
  rcases h.2 with ⟨rfl, _⟩ | ⟨g', cap, cur, rfl, _, h3, _⟩
  · intro g e; simp [Value.ownBlock] at e
  · intro g e
    simp [Value.ownBlock] at e
    subst e
    rintro rfl
    rw [hb] at h3
    injection h3 with h3
    injection h3 with _ h3
    exact ht h3
set_option maxHeartbeats 1000000
set_option maxRecDepth 100000
theorem epush_no (be B : Nat) (ev : Value) (D x : List Int) (p : Option Addr) (c : Nat) (w : World) (h : EV w B be ev D) (hl : 256 < D.length + x.length) (hx : x.length ≤ room) :
    Calls Try.prog 35 #[.pointer (some ⟨be, 0, none⟩), .slice p x.length c] w fun e w' => e = .returned (.int .i64 2) ∧ w' = w := by
  obtain ⟨pe, ce, rfl⟩ := ex_slice h.row
  have c0 := cell_of w be 0 _ 63 _ h.blk rfl
  have hd := h.len
  unfold room at hx
  have e1 : IntKind.i64.wrap ((D.length : Int) + (x.length : Int)) = (D.length : Int) + (x.length : Int) := i64_id _ (by omega) (by omega)
  have e2 : decide ((256 : Int) < (D.length : Int) + (x.length : Int)) = true := decide_eq_true (by omega)
  clear h
  go_enter Try.func35, Try.ntmps35
  go_wp2
  go_ret
  exact ⟨rfl, rfl⟩
theorem epush_yes (be B : Nat) (ev : Value) (D x : List Int) (v : Value) (w : World) (h : EV w B be ev D) (hx : Ls eU 1 w v x) (hl : D.length + x.length ≤ 256) :
    Calls Try.prog 35 #[.pointer (some ⟨be, 0, none⟩), v] w fun e w' => e = .returned (.int .i64 0) ∧ (∃ ev', EV w' B be ev' (D ++ x) ∧ Nw w ev ev') ∧ KT (fun t => t = 63) B w w' := by
  obtain ⟨px, cx, rfl, _, _⟩ := hx.ex
  obtain ⟨pe, ce, rfl⟩ := ex_slice h.row
  have c0 := cell_of w be 0 _ 63 _ h.blk rfl
  have hbe := lt_of h.blk
  have hB := h.hb
  have e1 : IntKind.i64.wrap ((D.length : Int) + (x.length : Int)) = (D.length : Int) + (x.length : Int) := i64_id _ (by omega) (by omega)
  have e2 : decide ((256 : Int) < (D.length : Int) + (x.length : Int)) = false := decide_eq_false (by omega)
  have hr0 := own_empty w 32 1
  have hb0 : Below w.heap.size w (w.alloc (.cells #[] 32)) := (Below.refl _ _).alloc (Nat.le_refl _) _
  have hs0 := (h.row.ls.below hb0).cs hU (by omega) oneU
  have c1 : (w.alloc (.cells #[] 32)).cell? ⟨be, 0, none⟩ = some (.slice pe D.length ce) := (World.cell?_of_block (w := w) (Below.heap_alloc w _ be hbe)).trans c0
  have HX := hid hx
  have HE := hid h
  clear hx h
  go_enter Try.func35, Try.ntmps35
  go_wp2_with (first | (at_builtin; refine wpList_append_row _ rfl _ _ 22 32 _ 1 2 Try.underlying22 info32 rfl (by decide) rfl w.heap.size _ 0 [] rfl hr0 _ D.length (en eU D) rfl hs0 (by unfold room; omega) (by unfold maxLen; omega) hb0.size ?_))
  intro v1 w1 hr1 hg1
  have hb1 : Below w.heap.size w w1 := hg1.belowAll (fun g e => (hr0.lt g e).1) hb0 (Nat.le_refl _)
  have hs1 := (HX.out.below hb1).cs hU (by omega) oneU
  replace hr1 : w1.ownsRow w.heap.size 32 1 v1 D.length (en eU D) := by simpa using hr1
  have HG1 := hid hg1
  clear hr0 hs0 hg1 hb0
  go_wp2_with (first | (at_builtin; refine wpList_append_row _ rfl _ _ 22 32 _ 1 2 Try.underlying22 info32 rfl (by decide) rfl w.heap.size _ D.length (en eU D) rfl hr1 _ x.length (en eU x) rfl hs1 (by unfold room; omega) (by unfold maxLen; omega) hb1.size ?_))
  intro v2 w2 hr2 hg2
  obtain ⟨pv2, cv2, rfl⟩ := ex_slice hr2
  have hb2 : Below w.heap.size w w2 := hg2.belowAll (fun g e => (hr1.lt g e).1) hb1 (Nat.le_refl _)
  have hk2 := (hb2.block be hbe).trans HE.out.blk
  have c2 := cell_of w2 be 0 _ 63 _ hk2 rfl
  have z2 := frozen_of w2 be 0 _ 63 hk2
  have hfin : (∃ ev', EV (w2.setCell ⟨be, 0, none⟩ (.slice pv2 (D.length + x.length) cv2)) B be ev' (D ++ x) ∧ Nw w (.slice pe D.length ce) ev') ∧ KT (fun t => t = 63) B w (w2.setCell ⟨be, 0, none⟩ (.slice pv2 (D.length + x.length) cv2)) := by
    have hne : ∀ g, (Value.slice pv2 (D.length + x.length) cv2).ownBlock = some g → g ≠ be := fun g e => by have := (hr2.lt g e).1; omega
    refine ⟨⟨.slice pv2 (D.length + x.length) cv2, ⟨?_, ?_, hB, by simp; omega⟩, fun g e => .inr (hr2.lt g e).1⟩, ?_⟩
    · rw [setCell_heap w2 be 0 _ 63 _ hk2]; rfl
    · have : RowU w2 w.heap.size (.slice pv2 (D.length + x.length) cv2) (D ++ x) := by simpa [RowU, en_append] using hr2
      exact own_mono (own_kept this fun g e _ => setCell_other _ _ _ _ _ (hne g e)) (by omega)
    · exact (KT.of hb2 (by omega)).trans (KT.at ((Tc.refl (fun k => k = be) w2).setCell be 0 rfl (.slice pv2 (D.length + x.length) cv2)) hk2 rfl hB)
  have HF := hid hfin
  clear hfin hr1 hr2 hg2 hb1 hb2 hs1 hk2
  go_wp2
  go_ret
  exact ⟨rfl, HF.out⟩
theorem epop_empty (be B : Nat) (ev : Value) (w : World) (h : EV w B be ev []) : Calls Try.prog 36 #[.pointer (some ⟨be, 0, none⟩)] w fun e w' => e = .returned (.int .u16 0) ∧ w' = w := by
  obtain ⟨pe, ce, rfl⟩ := ex_slice h.row
  have c0 := cell_of w be 0 _ 63 _ h.blk rfl
  clear h
  go_enter Try.func36, Try.ntmps36
  go_wp2
  go_ret
  exact ⟨rfl, rfl⟩
theorem epop (be B : Nat) (ev : Value) (l : List Int) (a : Int) (w : World) (h : EV w B be ev (l ++ [a])) : Calls Try.prog 36 #[.pointer (some ⟨be, 0, none⟩)] w fun e w' => e = .returned (.int .u16 a) ∧ (∃ ev', EV w' B be ev' l ∧ Nw w ev ev') ∧ KT (fun t => t = 63) B w w' := by
  have hlen : (l ++ [a]).length = l.length + 1 := by simp
  obtain ⟨g, cap, rfl, hg, hcap⟩ := rowU_pos h.row (by omega)
  have hl := h.len
  have hB := h.hb
  have c0 := cell_of w be 0 _ 63 _ h.blk rfl
  have z0 := frozen_of w be 0 _ 63 h.blk
  obtain ⟨b', o', hb', ca⟩ : ∃ b o, some (⟨g, 0, none⟩ : Addr) = some ⟨b, o, none⟩ ∧ w.cell? ⟨b, o + l.length, none⟩ = some (.int .u16 a) := by
    rcases h.row.ls with ⟨e, _⟩ | ⟨x, c, e, _, hs⟩
    · cases e
    · simp only [Value.slice.injEq, true_and] at e
      obtain ⟨e, rfl⟩ := e
      rw [e]
      exact hs.u l.length a (by simp)
  simp only [Option.some.injEq, Addr.mk.injEq] at hb'
  obtain ⟨rfl, rfl, _⟩ := hb'
  rw [Nat.zero_add] at ca
  have hrow : RowU w B (.slice (some ⟨g, 0, none⟩) l.length cap) l := by
    have := own_cut h.row l.length (by omega)
    rw [Nat.mul_one, show (en eU (l ++ [a])).take l.length = en eU l by rw [en_append, List.take_left' (by rw [en_len hU]; omega)]] at this
    exact this
  have hne : g ≠ be := own_ne h.row h.blk (by decide) g rfl
  have hfin : (∃ ev', EV (w.setCell ⟨be, 0, none⟩ (.slice (some ⟨g, 0, none⟩) l.length cap)) B be ev' l ∧ Nw w (.slice (some ⟨g, 0, none⟩) (l ++ [a]).length cap) ev') ∧ KT (fun t => t = 63) B w (w.setCell ⟨be, 0, none⟩ (.slice (some ⟨g, 0, none⟩) l.length cap)) := by
    refine ⟨⟨.slice (some ⟨g, 0, none⟩) l.length cap, ⟨?_, ?_, hB, by omega⟩, fun _ e => .inl e⟩, ?_⟩
    · rw [setCell_heap w be 0 _ 63 _ h.blk]; rfl
    · exact own_kept hrow fun k e _ => setCell_other _ _ _ _ _ (by simp [Value.ownBlock] at e; subst e; exact hne)
    · exact KT.at ((Tc.refl (fun k => k = be) w).setCell be 0 rfl _) h.blk rfl hB
  have HF := hid hfin
  clear hfin hrow h
  rw [hlen] at c0
  have e1 : IntKind.i64.wrap (((l.length + 1 : Nat) : Int) - 1) = (l.length : Int) := by rw [i64_id _ (by omega) (by omega)]; omega
  have e2 : (((l.length + 1 : Nat) : Int) == 0) = false := beq_eq_false_iff_ne.2 (by omega)
  have e3 : (l.length : Int) < ((l.length + 1 : Nat) : Int) := by omega
  have e4 : l.length ≤ cap := by omega
  go_enter Try.func36, Try.ntmps36
  go_wp2
  go_ret
  exact ⟨rfl, HF.out⟩
end Go.Proofs.Ytcnhfgoflfnocaa
