import Derived.Test.YtlljelfplffglabDoorHRep
/-! Unpack. -/
namespace Go.Proofs.YtlljelfplffglabDoor.H
open Go.RowKit Go.Shelf
open Go.Proofs
open Go.Proofs.YtlljelfplffglabDoor.K
set_option linter.unusedVariables false
set_option linter.unusedSimpArgs false
set_option maxHeartbeats 2000000
set_option maxRecDepth 100000
attribute [local go_sem] Oper.semAt_some
def unE (b : List UInt8) : Int := if (un b).isSome then 0 else 2
def unL (b : List UInt8) : List UInt8 := (un b).getD []
/-- Unpack's list so far. -/
structure UI (B Z : Nat) (bxv : Value) (W0 : World) (pre : List (UInt8 × UInt8)) (W : World) : Prop where
  below : Below B W0 W
  r0 : W.heap[B]? = some (.cells #[.slice none 0 0] 23 (0, 0))
  r1 : W.heap[B + 1]? = some (.cells #[.int .i64 0] 24 (0, 0))
  len : (pre.flatMap ex).length ≤ 3072
  bx : W.heap[Z + 1]? = some (.cells #[bxv] 23 (0, 0))
  ex_ : ∃ u, W.heap[Z]? = some (.cells #[u] 23 (0, 0)) ∧ Row W (B + 2) u (pre.flatMap ex)
structure UX (B : Nat) (W0 : World) (pre : List (UInt8 × UInt8)) (W : World) : Prop where
  below : Below B W0 W
  r0 : W.heap[B]? = some (.cells #[.slice none 0 0] 23 (0, 0))
  r1 : W.heap[B + 1]? = some (.cells #[.int .i64 2] 24 (0, 0))
  len : 3072 < (pre.flatMap ex).length
theorem below_grown {B N : Nat} {W0 W W' : World} {row : Option Nat} (h : Below B W0 W) (hg : W.grownBy W' row) (hr : ∀ r, row = some r → N ≤ r) (hN : B ≤ N) (hs : B ≤ W0.heap.size) : Below B W0 W' :=
  h.trans ⟨hg.os, hg.tape, hg.output, hg.size, fun k hk => hg.block k (by have := h.size; omega) (fun e => by have := hr k e.symm; omega)⟩
theorem row_ne {W : World} {B : Nat} {v : Value} {l : List UInt8} (h : Row W B v l) (k : Nat) (c : Array Value) (t : TypeId) (f : Nat × Nat) (hk : W.heap[k]? = some (.cells c t f)) (ht : t ≠ 5) : v.ownBlock ≠ some k := by
  intro e
  rcases h.2 with ⟨rfl, _⟩ | ⟨g, cap, cur, rfl, _, hg, _⟩
  · simp [Value.ownBlock] at e
  · simp [Value.ownBlock] at e; subst e; rw [hk] at hg; simp at hg; exact ht hg.2.1
theorem ex_len (x : UInt8 × UInt8) : (ex x).length = x.2.toNat + 1 := by simp [ex]
def fin (w2 : World) (B D : Nat) (x y : Value) : World := ((w2.setCell ⟨B, 0, none⟩ x).setCell ⟨B + 1, 0, none⟩ y).putObj D (.deferred none)
theorem un_fin {w2 : World} {B D : Nat} (a b x y : Value) (h0 : w2.heap[B]? = some (.cells #[a] 23 (0, 0))) (h1 : w2.heap[B + 1]? = some (.cells #[b] 24 (0, 0))) (hD : w2.heap[D]? = some (.deferred (some []))) (hDB : B + 1 < D) :
    ((w2.setCell ⟨B, 0, none⟩ x).setCell ⟨B + 1, 0, none⟩ y).heap[D]? = some (.deferred (some [])) ∧ (fin w2 B D x y).cell? ⟨B, 0, none⟩ = some x ∧ (fin w2 B D x y).cell? ⟨B + 1, 0, none⟩ = some y ∧ ∀ k, k ≠ B → k ≠ B + 1 → k ≠ D → (fin w2 B D x y).heap[k]? = w2.heap[k]? := by
  have e0 : ((w2.setCell ⟨B, 0, none⟩ x).setCell ⟨B + 1, 0, none⟩ y).heap[B]? = some (.cells #[x] 23 (0, 0)) := by
    rw [heap_setCell_other _ ⟨B + 1, 0, none⟩ _ _ (by simp)]
    exact heap_setCell_same w2 B 0 _ _ _ h0
  have e1 : ((w2.setCell ⟨B, 0, none⟩ x).setCell ⟨B + 1, 0, none⟩ y).heap[B + 1]? = some (.cells #[y] 24 (0, 0)) := by
    refine heap_setCell_same _ (B + 1) 0 #[b] _ _ ?_
    rw [heap_setCell_other _ ⟨B, 0, none⟩ _ _ (by simp)]; exact h1
  refine ⟨?_, ?_, ?_, fun k k0 k1 kD => ?_⟩
  · rw [heap_setCell_other _ ⟨B + 1, 0, none⟩ _ _ (by simp; omega), heap_setCell_other _ ⟨B, 0, none⟩ _ _ (by simp; omega)]; exact hD
  · exact cell_box ((World.putObj_heap_other (by omega)).trans e0)
  · exact cell_box ((World.putObj_heap_other (by omega)).trans e1)
  · unfold fin
    rw [World.putObj_heap_other (by omega), heap_setCell_other _ ⟨B + 1, 0, none⟩ _ _ k1, heap_setCell_other _ ⟨B, 0, none⟩ _ _ k0]
theorem fin_below {w w2 : World} {D : Nat} (x y : Value) (hb : Below w.heap.size w w2) (hDB : w.heap.size + 1 < D) : Below w.heap.size w (fin w2 w.heap.size D x y) :=
  hb.trans ⟨rfl, rfl, rfl, by unfold fin; simp, fun k hk => by
    unfold fin
    rw [World.putObj_heap_other (by omega), heap_setCell_other _ ⟨w.heap.size + 1, 0, none⟩ _ _ (by simp; omega), heap_setCell_other _ ⟨w.heap.size, 0, none⟩ _ _ (by simp; omega)]⟩
theorem unpack_any (v : Value) (b : List UInt8) (hlb : b.length ≤ room) (w : World) (h : Sl w v b) :
    Calls Tryd.prog 6 #[v] w fun e w' => ∃ p c, e = .returned (.tuple #[.slice p (unL b).length c, .int .i64 (unE b)]) ∧ Row w' w.heap.size (.slice p (unL b).length c) (unL b) ∧ Below w.heap.size w w' := by
  obtain ⟨p, c, rfl, _⟩ := h.ex
  refine (callsIn_wide (n := 9)).1 ?_
  refine callsIn_of_wp_marks Tryd.func6 rfl trivial ?_ rfl
  simp only [Tryd.ntmps6, List.size_toArray, List.length_cons, List.length_nil, Nat.reduceAdd, Nat.reduceSub, Array.replicate_succ, Array.replicate_zero, List.push_toArray, List.append_toArray, List.nil_append, List.cons_append]
  obtain ⟨wa, hwa⟩ : ∃ wa, (w.alloc (.cells #[.slice none 0 0] 23)).alloc (.cells #[.int .i64 0] 24) = wa := ⟨_, rfl⟩
  have sa : wa.heap.size = w.heap.size + 2 := by rw [← hwa]; simp
  have ba : Below w.heap.size w wa := by rw [← hwa]; exact ((Below.refl _ w).alloc (Nat.le_refl _) _).alloc (by simp) _
  have a0 : wa.heap[w.heap.size]? = some (.cells #[.slice none 0 0] 23 (0, 0)) := by rw [← hwa]; exact (Below.heap_alloc _ _ _ (by simp)).trans (heap_alloc_new w _)
  have a1 : wa.heap[w.heap.size + 1]? = some (.cells #[.int .i64 0] 24 (0, 0)) := by rw [← hwa]; exact heap_alloc2_new w _ _
  obtain ⟨wb, hmk0, hrb, hbb⟩ := make_row wa 3072 (by omega)
  have hmk : (Instr.makeSlice 23 (.int .i64 0) (.int .i64 3072)).run Tryd.prog wa = .ok (.slice (some ⟨wa.heap.size, 0, none⟩) 0 3072) wb := hmk0
  clear hmk0
  skip
  gi_wp2_with (refine ⟨trivial, ?_⟩; gi_at_call 19; refine (callsIn_wide.2 (unpacked_any p b.length c _)).mono ?_; rintro e w' ⟨rfl, rfl⟩)
  have hzb : w.heap.size + 3 ≤ wb.heap.size := by have h1 := (hrb.lt wa.heap.size rfl).2; omega
  obtain ⟨w0, hw0⟩ : ∃ w0, (wb.alloc (.cells #[.slice (some ⟨w.heap.size + 2, 0, none⟩) 0 3072] 23)).alloc (.cells #[.slice p b.length c] 23) = w0 := ⟨_, rfl⟩
  have s0 : w0.heap.size = wb.heap.size + 2 := by rw [← hw0]; simp
  have bb0 : Below wb.heap.size wb w0 := by rw [← hw0]; exact ((Below.refl _ wb).alloc (Nat.le_refl _) _).alloc (by simp) _
  have hB0 : Below w.heap.size w w0 := (ba.trans (hbb.mono (by omega))).trans (bb0.mono (by omega))
  have e0 : w0.heap[w.heap.size]? = some (.cells #[.slice none 0 0] 23 (0, 0)) := (bb0.block _ (by omega)).trans ((hbb.block _ (by omega)).trans a0)
  have e1 : w0.heap[w.heap.size + 1]? = some (.cells #[.int .i64 0] 24 (0, 0)) := (bb0.block _ (by omega)).trans ((hbb.block _ (by omega)).trans a1)
  have e3 : w0.heap[wb.heap.size]? = some (.cells #[.slice (some ⟨w.heap.size + 2, 0, none⟩) 0 3072] 23 (0, 0)) := by rw [← hw0]; exact (Below.heap_alloc _ _ _ (by simp)).trans (heap_alloc_new wb _)
  have e4 : w0.heap[wb.heap.size + 1]? = some (.cells #[.slice p b.length c] 23 (0, 0)) := by rw [← hw0]; exact heap_alloc2_new wb _ _
  rw [sa] at hrb
  have r0 : Row w0 (w.heap.size + 2) (.slice (some ⟨w.heap.size + 2, 0, none⟩) 0 3072) [] := hrb.below bb0
  have hst := unpacked_stops 8 w.heap.size (wb.heap.size + 1) (by omega) p c b hlb w0 (by omega) (fun W hW => h.below (hB0.trans hW)) e4
  rw [hw0]
  clear hw0 hmk hwa a0 a1 ba hbb bb0 hrb
  refine wpIn_rangeFunc_ownH rfl (by omega) (gf := 37) (lb := #[.pointer (some ⟨wb.heap.size + 1, 0, none⟩)]) rfl trivial Tryd.call37 hst Kq.t (Kq.b (by omega)) (Below.refl _ _) (fun _ => rfl)
    (fun pre W => UI w.heap.size wb.heap.size (.slice p b.length c) w pre W) (fun c pre W => c = .ret ∧ UX w.heap.size w pre W)
    (fun pre A B row hs hg hr => ⟨below_grown hs.below hg (fun r e => (hr r e).1) (by omega) (Nat.le_refl _), blk_grown hs.r0 hg (fun r e => (hr r e).2), blk_grown hs.r1 hg (fun r e => (hr r e).2), hs.len, blk_grown hs.bx hg (fun r e => (hr r e).2), by
      obtain ⟨u, h1, h2⟩ := hs.ex_
      exact ⟨u, blk_grown h1 hg (fun r e => (hr r e).2), row_grown h2 hg (fun r e => (hr r e).2)⟩⟩)
    (fun c pre A B row hs hg hr => ⟨hs.1, below_grown hs.2.below hg (fun r e => (hr r e).1) (by omega) (Nat.le_refl _), blk_grown hs.2.r0 hg (fun r e => (hr r e).2), blk_grown hs.2.r1 hg (fun r e => (hr r e).2), hs.2.len⟩)
    ⟨hB0, e0, e1, by simp, e4, _, e3, r0⟩
    (fun x a' W => a' = { tmps := #[.slice p b.length c, undef, .pointer (some ⟨w.heap.size, 0, none⟩), .pointer (some ⟨w.heap.size + 1, 0, none⟩), .pointer (some ⟨wb.heap.size, 0, none⟩), .int .u8 (x.1.toNat : Int), .int .i64 ((x.2.toNat : Int) + 1), undef, undef, .slice (some ⟨w.heap.size + 2, 0, none⟩) 0 3072, .slice p b.length c, .func (.func 37) #[] #[.pointer (some ⟨wb.heap.size + 1, 0, none⟩)], .int .u8 (x.1.toNat : Int), .int .i64 ((x.2.toNat : Int) + 1), undef, undef, undef, undef, undef, undef, undef, undef, undef, undef, undef, undef, undef, undef, undef, undef, undef, undef, undef, undef, undef, undef, undef, undef, undef], defers := [] })
    (fun x a' s A B row hs hg hr => hs) ?assign ?body ?done ?stop
  case assign =>
    rintro l pre x W K hI hK
    gi_wp2
    exact hK _ _ (KeepsFrom.refl _ _) (Kq.below (Below.refl _ _) (by have := hI.below.size; omega)) hI rfl
  case body =>
    rintro l pre ⟨q, m⟩ a' W hl3 ⟨r, hr⟩ hI rfl hlt
    obtain ⟨u, hu1, hu2⟩ := hI.ex_
    have hIb := hI.below
    have hsz := hIb.size
    have hrl := (Array.getElem?_eq_some_iff.1 hr).1
    obtain ⟨pu, cu, hue⟩ := own_val hu2
    obtain ⟨nu, hnu⟩ : ∃ nu, (pre.flatMap ex).length = nu := ⟨_, rfl⟩
    have hnl := hI.len
    rw [hnu] at hue hnl
    subst hue
    have c0 := cell_box hu1
    have hml := m.toNat_lt
    have y1 : IntKind.i64.wrap ((nu : Int) + ((m.toNat : Int) + 1)) = (nu : Int) + ((m.toNat : Int) + 1) := by rw [IntKind.wrap_i64]; omega
    by_cases hov : 3072 < nu + (m.toNat + 1)
    · have d1 : decide ((3072 : Int) < (nu : Int) + ((m.toNat : Int) + 1)) = true := decide_eq_true (by omega)
      have k0 := cell_box hI.r0
      have k1 := cell_box hI.r1
      have f0 := frozen_of_row W w.heap.size 0 _ _ hI.r0
      have f1 := frozen_of_row W (w.heap.size + 1) 0 _ _ hI.r1
      have hend : UX w.heap.size w (pre ++ [(q, m)]) ((W.setCell ⟨w.heap.size, 0, none⟩ (.slice none 0 0)).setCell ⟨w.heap.size + 1, 0, none⟩ (.int .i64 2)) := by
        refine ⟨(hIb.setCell (p := ⟨w.heap.size, 0, none⟩) (Nat.le_refl _) _).setCell (p := ⟨w.heap.size + 1, 0, none⟩) (by simp) _, ?_, ?_, ?_⟩
        · rw [heap_setCell_other _ ⟨w.heap.size + 1, 0, none⟩ _ _ (by simp)]
          exact heap_setCell_same W w.heap.size 0 _ _ _ hI.r0
        · refine heap_setCell_same _ (w.heap.size + 1) 0 #[.int .i64 0] _ _ ?_
          rw [heap_setCell_other _ ⟨w.heap.size, 0, none⟩ _ _ (by simp)]
          exact hI.r1
        · rw [List.flatMap_append, List.length_append, hnu]; simp [ex_len]; omega
      have HE := hid (And.intro (((KeepsOthers.refl W).trans (KeepsOthers.setCell W ⟨w.heap.size, 0, none⟩ (.slice none 0 0))).trans (KeepsOthers.setCell _ ⟨w.heap.size + 1, 0, none⟩ (.int .i64 2)) |>.from w0.heap.size) hend)
      clear hend hu2 hI
      gi_wp2
      exact ⟨HE.out.1, rfl, HE.out.2⟩
    · have d1 : decide ((3072 : Int) < (nu : Int) + ((m.toNat : Int) + 1)) = false := decide_eq_false (by omega)
      gi_wp2
      have hSx : W.drew.cell? ⟨wb.heap.size, 0, none⟩ = some (.slice pu nu cu) := c0
      refine region_in2 (S := fun wz : World => True) (by kernel_rfl) (by kernel_rfl) (fun ⟨_, _, h⟩ => h) trivial (fun hHeld => ?_)
      have hu5 : W.drew.heap[wb.heap.size]? = some (.cells #[.slice pu nu cu] 23 (0, 0)) := hu1
      have hr5 : Row W.drew (w.heap.size + 2) (.slice pu nu cu) (pre.flatMap ex) := hu2
      have q0 : W.drew.heap[w.heap.size]? = some (.cells #[.slice none 0 0] 23 (0, 0)) := hI.r0
      have q1 : W.drew.heap[w.heap.size + 1]? = some (.cells #[.int .i64 0] 24 (0, 0)) := hI.r1
      have qb : W.drew.heap[wb.heap.size + 1]? = some (.cells #[.slice p b.length c] 23 (0, 0)) := hI.bx
      have b5 : Below w.heap.size w W.drew := ⟨hIb.os, hIb.tape, hIb.output, hIb.size, hIb.block⟩
      have ks5 : KeepsOthers W W.drew := KeepsOthers.drew W
      have kq5 : Kq w.heap.size (wb.heap.size + 1) W W.drew := ⟨⟨rfl, rfl, rfl, Nat.le_refl _, fun _ _ => rfl⟩, fun c t f e => e⟩
      have sz5 : wb.heap.size + 2 ≤ W.drew.heap.size := by show _ ≤ W.heap.size; omega
      generalize W.drew = y0 at *
      have b6 : Below y0.heap.size y0 (y0.alloc (.cells #[.int .u8 (q.toNat : Int)] 5)) := (Below.refl _ _).alloc (Nat.le_refl _) _
      have hs6 : Sl (y0.alloc (.cells #[.int .u8 (q.toNat : Int)] 5)) (.slice (some ⟨y0.heap.size, 0, none⟩) 1 1) [q] := (row_of_alloc y0 y0.heap.size (Nat.le_refl _) [q] (by simp [maxLen])).sl
      have hrp := repeat_any _ q (m.toNat + 1) (by omega) (by omega) _ hs6
      have hci : ((m.toNat + 1 : Nat) : Int) = (m.toNat : Int) + 1 := by omega
      rw [hci] at hrp
      have hSy := (b6.cell (World.block_lt_of_cell? y0 _ hSx)).trans hSx
      have hlx : (pre.flatMap ex).length + (List.replicate (m.toNat + 1) q).length ≤ room := by rw [hnu, List.length_replicate]; unfold room; omega
      have hTail : ∀ (y1w : World) (p7 : Option Addr) (c7 : Nat), Sl y1w (.slice p7 (m.toNat + 1) c7) (List.replicate (m.toNat + 1) q) → Below (y0.alloc (.cells #[.int .u8 (q.toNat : Int)] 5)).heap.size (y0.alloc (.cells #[.int .u8 (q.toNat : Int)] 5)) y1w →
          Row y1w (w.heap.size + 2) (.slice pu nu cu) (pre.flatMap ex) ∧ w.heap.size + 2 ≤ y1w.heap.size ∧ ∀ v9 y2w, Row y2w (w.heap.size + 2) v9 (pre.flatMap ex ++ List.replicate (m.toNat + 1) q) → Grew y1w y2w (.slice pu nu cu) v9 → (∃ pv nv cv, v9 = .slice pv nv cv) ∧ y2w.heap[wb.heap.size]? = some (.cells #[.slice pu nu cu] 23 (0, 0)) ∧ KeepsFrom w0.heap.size W (y2w.setCell ⟨wb.heap.size, 0, none⟩ v9) ∧ Kq w.heap.size (wb.heap.size + 1) W (y2w.setCell ⟨wb.heap.size, 0, none⟩ v9) ∧ UI w.heap.size wb.heap.size (.slice p b.length c) w (pre ++ [(q, m)]) (y2w.setCell ⟨wb.heap.size, 0, none⟩ v9) := by
        intro y1w p7 c7 hs7 b7
        have b8 : Below y0.heap.size y0 y1w := b6.trans (b7.mono b6.size)
        have hu8 := (b8.block _ (by omega)).trans hu5
        have hr8 := hr5.below b8
        have bz8 := b5.trans (b8.mono b5.size)
        have s8 := b8.size
        refine ⟨hr8, by omega, fun v9 y2w hr9 hg9' => ?_⟩
        have hne : ∀ g, (Value.slice pu nu cu).ownBlock = some g → w.heap.size + 2 ≤ g := fun g e => (hr8.lt g e).1
        have n1 := row_ne hr8 wb.heap.size _ _ _ hu8 (by decide)
        have n2 := row_ne hr8 (wb.heap.size + 1) _ _ _ ((b8.block _ (by omega)).trans qb) (by decide)
        have hu9 := (hg9'.block wb.heap.size (by omega) (fun e => n1 e.symm)).trans hu8
        have hge : ∀ g, v9.ownBlock = some g → w.heap.size + 2 ≤ g := fun g e => (hr9.lt g e).1
        have n3 := row_ne hr9 wb.heap.size _ _ _ hu9 (by decide)
        have bz9 : Below w.heap.size w y2w := bz8.trans (hg9'.below (fun g e => by have := hne g e; omega) (by omega))
        have q09 : y2w.heap[w.heap.size]? = some (.cells #[.slice none 0 0] 23 (0, 0)) := (hg9'.block _ (by omega) (fun e => by have := hne _ e.symm; omega)).trans ((b8.block _ (by omega)).trans q0)
        have q19 : y2w.heap[w.heap.size + 1]? = some (.cells #[.int .i64 0] 24 (0, 0)) := (hg9'.block _ (by omega) (fun e => by have := hne _ e.symm; omega)).trans ((b8.block _ (by omega)).trans q1)
        have qb9 : y2w.heap[wb.heap.size + 1]? = some (.cells #[.slice p b.length c] 23 (0, 0)) := (hg9'.block _ (by omega) (fun e => n2 e.symm)).trans ((b8.block _ (by omega)).trans qb)
        obtain ⟨pv, cv, hve⟩ := own_val hr9
        refine ⟨⟨_, _, _, hve⟩, hu9, ?_, ?_, ?_⟩
        · exact (((ks5.trans (KeepsOthers.of_grownBy (grown_of b8) (fun j o e => by cases e))).trans (keeps_grew hr8 hg9')).trans (KeepsOthers.setCell y2w ⟨wb.heap.size, 0, none⟩ v9)).from w0.heap.size
        · exact (kq5.t (Kq.below b8 (by omega))).t ⟨(hg9'.below (fun g e => by have := hne g e; omega) (by omega)).trans ((Below.refl _ _).setCell (p := ⟨wb.heap.size, 0, none⟩) (by simp; omega) _), fun c t f e => by
            rw [heap_setCell_other _ ⟨wb.heap.size, 0, none⟩ _ _ (by simp)]
            exact (hg9'.block _ (by omega) (fun e => n2 e.symm)).trans e⟩
        · refine ⟨bz9.setCell (p := ⟨wb.heap.size, 0, none⟩) (by simp; omega) _, ?_, ?_, ?_, ?_, v9, ?_, ?_⟩
          · rw [heap_setCell_other _ ⟨wb.heap.size, 0, none⟩ _ _ (by simp; omega)]; exact q09
          · rw [heap_setCell_other _ ⟨wb.heap.size, 0, none⟩ _ _ (by simp; omega)]; exact q19
          · rw [List.flatMap_append, List.length_append, hnu]; simp [ex_len]; omega
          · rw [heap_setCell_other _ ⟨wb.heap.size, 0, none⟩ _ _ (by simp)]; exact qb9
          · exact heap_setCell_same y2w wb.heap.size 0 _ _ _ hu9
          · rw [List.flatMap_append]
            have : [(q, m)].flatMap ex = List.replicate (m.toNat + 1) q := by simp [ex]
            rw [this]
            exact hr9.kept fun g e _ => heap_setCell_other y2w ⟨wb.heap.size, 0, none⟩ g _ (by rintro rfl; exact n3 e)
      have HT := hid hTail
      clear hTail hu1 hu2 hI c0 hu5 hr5 q0 q1 qb ks5 kq5
      refine wpAnyH_take (i := 1) (v := ?_) rfl (by kernel_rfl) (by kernel_rfl) (by kernel_rfl) (fun c a w h => h) (Or.inl ⟨by rfl, ?_⟩) hHeld ?_
      rotate_left
      · (intro w hSw; (try dsimp only at hSw); go_simp; try with_reducible rfl)
      simp only [Act.put, List.getElem_toArray, List.getElem_cons_zero, List.getElem_cons_succ, List.setIfInBounds_toArray, List.set_cons_zero, List.set_cons_succ]
      refine wpAnyH_take (i := 3) (v := ?_) rfl (by kernel_rfl) (by kernel_rfl) (by kernel_rfl) (fun c a w h => h) (Or.inl ⟨by rfl, ?_⟩) hHeld ?_
      rotate_left
      · (intro w hSw; (try dsimp only at hSw); go_simp; try with_reducible rfl)
      simp only [Act.put, List.getElem_toArray, List.getElem_cons_zero, List.getElem_cons_succ, List.setIfInBounds_toArray, List.set_cons_zero, List.set_cons_succ]
      refine wpAnyH_ready (rs := [0, 2]) (by kernel_rfl) (by simp) ?_
      refine AllReadyH.cons rfl (fun K hK => ?_) (AllReadyH.cons rfl (fun K hK => ?_) AllReadyH.nil)
      · go_simp
        refine hK.out _ _ trivial (fun hHeld => ?_)
        clear hK K
        try simp only [Act.put, List.getElem_toArray, List.getElem_cons_zero, List.getElem_cons_succ, List.setIfInBounds_toArray, List.set_cons_zero, List.set_cons_succ]
        refine wpAnyH_ready (rs := [2]) (by kernel_rfl) (by simp) ?_
        refine AllReadyH.cons rfl (fun K hK => ?_) AllReadyH.nil
        go_simp
        refine hK.out _ _ trivial (fun hHeld => ?_)
        clear hK K
        try simp only [Act.put, List.getElem_toArray, List.getElem_cons_zero, List.getElem_cons_succ, List.setIfInBounds_toArray, List.set_cons_zero, List.set_cons_succ]
        refine wpAnyH_ready (rs := [4]) (by kernel_rfl) (by simp) ?_
        refine AllReadyH.cons rfl (fun K hK => ?_) AllReadyH.nil
        rw [if_pos (by rfl)]
        go_simp
        refine hrp.mono ?_
        rintro e y1w ⟨p7, c7, rfl, hs7, b7⟩
        have hSz := (b7.cell (World.block_lt_of_cell? _ _ hSy)).trans hSy
        refine hK.out _ _ trivial (fun hHeld => ?_)
        clear hK K
        try simp only [Act.put, List.getElem_toArray, List.getElem_cons_zero, List.getElem_cons_succ, List.setIfInBounds_toArray, List.set_cons_zero, List.set_cons_succ]
        obtain ⟨hr8, hs8, hT⟩ := HT.out y1w p7 c7 hs7 b7
        refine wpAnyH_ready (rs := [5]) (by kernel_rfl) (by simp) ?_
        refine AllReadyH.cons rfl (fun K hK => ?_) AllReadyH.nil
        rw [if_pos (by rfl)]
        refine wp_append_bytes _ _ _ rfl (w.heap.size + 2) _ (pre.flatMap ex) rfl hr8 _ (List.replicate (m.toNat + 1) q) rfl (by rw [List.length_replicate] at *; exact hs7) hlx hs8 (fun v9 y2w hr9 hg9 => ?_)
        obtain ⟨⟨pv, nv, cv, rfl⟩, hu9, hend⟩ := hT v9 y2w hr9 hg9
        have c9 := cell_box hu9
        have f9 := frozen_of_row y2w wb.heap.size 0 _ _ hu9
        refine hK.out _ _ trivial (fun hHeld => ?_)
        clear hK K
        try simp only [Act.put, List.getElem_toArray, List.getElem_cons_zero, List.getElem_cons_succ, List.setIfInBounds_toArray, List.set_cons_zero, List.set_cons_succ]
        refine wpAnyH_ready (rs := [6]) (by kernel_rfl) (by simp) ?_
        refine AllReadyH.cons rfl (fun K hK => ?_) AllReadyH.nil
        go_simp
        refine hK.out _ _ trivial (fun hHeld => ?_)
        clear hK K
        refine wpAnyH_done (by kernel_rfl) ?_ _
        exact hend
      · go_simp
        refine hK.out _ _ trivial (fun hHeld => ?_)
        clear hK K
        try simp only [Act.put, List.getElem_toArray, List.getElem_cons_zero, List.getElem_cons_succ, List.setIfInBounds_toArray, List.set_cons_zero, List.set_cons_succ]
        refine wpAnyH_ready (rs := [0, 4]) (by kernel_rfl) (by simp) ?_
        refine AllReadyH.cons rfl (fun K hK => ?_) (AllReadyH.cons rfl (fun K hK => ?_) AllReadyH.nil)
        · go_simp
          refine hK.out _ _ trivial (fun hHeld => ?_)
          clear hK K
          try simp only [Act.put, List.getElem_toArray, List.getElem_cons_zero, List.getElem_cons_succ, List.setIfInBounds_toArray, List.set_cons_zero, List.set_cons_succ]
          refine wpAnyH_ready (rs := [4]) (by kernel_rfl) (by simp) ?_
          refine AllReadyH.cons rfl (fun K hK => ?_) AllReadyH.nil
          rw [if_pos (by rfl)]
          go_simp
          refine hrp.mono ?_
          rintro e y1w ⟨p7, c7, rfl, hs7, b7⟩
          have hSz := (b7.cell (World.block_lt_of_cell? _ _ hSy)).trans hSy
          refine hK.out _ _ trivial (fun hHeld => ?_)
          clear hK K
          try simp only [Act.put, List.getElem_toArray, List.getElem_cons_zero, List.getElem_cons_succ, List.setIfInBounds_toArray, List.set_cons_zero, List.set_cons_succ]
          obtain ⟨hr8, hs8, hT⟩ := HT.out y1w p7 c7 hs7 b7
          refine wpAnyH_ready (rs := [5]) (by kernel_rfl) (by simp) ?_
          refine AllReadyH.cons rfl (fun K hK => ?_) AllReadyH.nil
          rw [if_pos (by rfl)]
          refine wp_append_bytes _ _ _ rfl (w.heap.size + 2) _ (pre.flatMap ex) rfl hr8 _ (List.replicate (m.toNat + 1) q) rfl (by rw [List.length_replicate] at *; exact hs7) hlx hs8 (fun v9 y2w hr9 hg9 => ?_)
          obtain ⟨⟨pv, nv, cv, rfl⟩, hu9, hend⟩ := hT v9 y2w hr9 hg9
          have c9 := cell_box hu9
          have f9 := frozen_of_row y2w wb.heap.size 0 _ _ hu9
          refine hK.out _ _ trivial (fun hHeld => ?_)
          clear hK K
          try simp only [Act.put, List.getElem_toArray, List.getElem_cons_zero, List.getElem_cons_succ, List.setIfInBounds_toArray, List.set_cons_zero, List.set_cons_succ]
          refine wpAnyH_ready (rs := [6]) (by kernel_rfl) (by simp) ?_
          refine AllReadyH.cons rfl (fun K hK => ?_) AllReadyH.nil
          go_simp
          refine hK.out _ _ trivial (fun hHeld => ?_)
          clear hK K
          refine wpAnyH_done (by kernel_rfl) ?_ _
          exact hend
        · rw [if_pos (by rfl)]
          go_simp
          refine hrp.mono ?_
          rintro e y1w ⟨p7, c7, rfl, hs7, b7⟩
          have hSz := (b7.cell (World.block_lt_of_cell? _ _ hSy)).trans hSy
          refine hK.out _ _ trivial (fun hHeld => ?_)
          clear hK K
          try simp only [Act.put, List.getElem_toArray, List.getElem_cons_zero, List.getElem_cons_succ, List.setIfInBounds_toArray, List.set_cons_zero, List.set_cons_succ]
          refine wpAnyH_ready (rs := [0]) (by kernel_rfl) (by simp) ?_
          refine AllReadyH.cons rfl (fun K hK => ?_) AllReadyH.nil
          go_simp
          refine hK.out _ _ trivial (fun hHeld => ?_)
          clear hK K
          try simp only [Act.put, List.getElem_toArray, List.getElem_cons_zero, List.getElem_cons_succ, List.setIfInBounds_toArray, List.set_cons_zero, List.set_cons_succ]
          obtain ⟨hr8, hs8, hT⟩ := HT.out y1w p7 c7 hs7 b7
          refine wpAnyH_ready (rs := [5]) (by kernel_rfl) (by simp) ?_
          refine AllReadyH.cons rfl (fun K hK => ?_) AllReadyH.nil
          rw [if_pos (by rfl)]
          refine wp_append_bytes _ _ _ rfl (w.heap.size + 2) _ (pre.flatMap ex) rfl hr8 _ (List.replicate (m.toNat + 1) q) rfl (by rw [List.length_replicate] at *; exact hs7) hlx hs8 (fun v9 y2w hr9 hg9 => ?_)
          obtain ⟨⟨pv, nv, cv, rfl⟩, hu9, hend⟩ := hT v9 y2w hr9 hg9
          have c9 := cell_box hu9
          have f9 := frozen_of_row y2w wb.heap.size 0 _ _ hu9
          refine hK.out _ _ trivial (fun hHeld => ?_)
          clear hK K
          try simp only [Act.put, List.getElem_toArray, List.getElem_cons_zero, List.getElem_cons_succ, List.setIfInBounds_toArray, List.set_cons_zero, List.set_cons_succ]
          refine wpAnyH_ready (rs := [6]) (by kernel_rfl) (by simp) ?_
          refine AllReadyH.cons rfl (fun K hK => ?_) AllReadyH.nil
          go_simp
          refine hK.out _ _ trivial (fun hHeld => ?_)
          clear hK K
          refine wpAnyH_done (by kernel_rfl) ?_ _
          exact hend

  case done =>
    rintro D ys W hD rfl hI hK
    obtain ⟨u, hu1, hu2⟩ := hI.ex_
    have hup := up_ru b.length b (Nat.le_refl _)
    rw [← hup] at hu2
    have hln := hI.len
    rw [← hup] at hln
    have hIb := hI.below
    obtain ⟨pu, cu, hue⟩ := own_val hu2
    subst hue
    have c0 := cell_box hu1
    have hDl := (Array.getElem?_eq_some_iff.1 hK).1
    have hzl := (Array.getElem?_eq_some_iff.1 hu1).1
    have hul : (up b).length ≤ maxLen := by unfold maxLen; omega
    have hlb2 : b.length ≤ maxLen := by unfold room at hlb; unfold maxLen; omega
    by_cases hl : (up b).length = 3072
    · have hpk := pack_any _ (up b) W hu2.sl
      simp only [hl, if_true] at hpk
      have hul2 : (pk (up b)).length ≤ maxLen := by have := pk_most (up b); unfold maxLen; omega
      have HI := hid (And.intro hI (And.intro hu2 (And.intro hK (And.intro hIb hl))))
      rw [hl] at hu1 c0
      clear hI hu2 hup hIb hl hln hul
      gi_wp2
      refine ⟨trivial, ?_⟩
      gi_at_call 18
      refine (callsIn_wide.2 hpk).mono ?_
      rintro e w2 ⟨uf, rfl, huf, hb2⟩
      obtain ⟨pf, cf, hfe⟩ := own_val huf
      subst hfe
      have hbb := h.below (HI.out.2.2.2.1.trans (hb2.mono HI.out.2.2.2.1.size))
      have heq := equal_any _ _ (pk (up b)) b hul2 hlb2 w2 huf.sl hbb
      have k0 := (hb2.block _ (Array.getElem?_eq_some_iff.1 HI.out.1.r0).1).trans HI.out.1.r0
      have k1 := (hb2.block _ (Array.getElem?_eq_some_iff.1 HI.out.1.r1).1).trans HI.out.1.r1
      have k3 := (hb2.block _ hzl).trans hu1
      have hK2 := (hb2.block D hDl).trans hK
      have hr2 := HI.out.2.1.below hb2
      have hbw := HI.out.2.2.2.1.trans (hb2.mono HI.out.2.2.2.1.size)
      have HJ := hid (And.intro k0 (And.intro k1 (And.intro k3 (And.intro hK2 (And.intro hr2 hbw)))))
      have d0 := cell_box k0
      have d1 := cell_box k1
      have d3 := cell_box k3
      have f0 := frozen_of_row w2 w.heap.size 0 _ _ k0
      have f1 := frozen_of_row w2 (w.heap.size + 1) 0 _ _ k1
      clear k0 k1 k3 hK2 hr2 hbw hb2 huf hpk hbb
      gi_wp2
      refine ⟨trivial, ?_⟩
      gi_at_call 21
      refine (callsIn_wide.2 heq).mono ?_
      rintro e w3 ⟨rfl, hw3⟩
      obtain rfl := hw3.symm
      by_cases he : pk (up b) = b
      · have hun : un b = some (up b) := by rw [un, if_pos ⟨HI.out.2.2.2.2, he⟩]
        rw [decide_eq_true he]
        clear he heq
        dsimp only
        gi_wp2
        obtain ⟨z0, z1, z2, z3⟩ := un_fin _ _ (.slice pu 3072 cu) (.int .i64 0) HJ.out.1 HJ.out.2.1 HJ.out.2.2.2.1 (by omega)
        refine ⟨by simp, .inl ⟨_, _, rfl, run_takeDeferred z0, ?_⟩⟩
        rw [show unL b = up b by rw [unL, hun]; rfl, show unE b = 0 by rw [unE, hun]; rfl, HI.out.2.2.2.2]
        have hr2 := HJ.out.2.2.2.2.1
        rw [HI.out.2.2.2.2] at hr2
        refine ⟨.tuple #[.slice pu 3072 cu, .int .i64 0], ?_, ⟨pu, cu, rfl, ?_, fin_below _ _ HJ.out.2.2.2.2.2 (by omega)⟩⟩
        · unfold fin at z1 z2
          simp [results, Tryd.results6, go_sem, z1, z2]
        · refine Row.mono (Row.kept hr2 (fun g e hg => ?_)) (by omega)
          refine z3 g (fun q => ?_) (fun q => ?_) (fun q => ?_)
          · subst q; exact row_ne hr2 _ _ _ _ HJ.out.1 (by decide) e
          · subst q; exact row_ne hr2 _ _ _ _ HJ.out.2.1 (by decide) e
          · subst q
            obtain ⟨o, ho, hc⟩ := Row.cellsOf hr2 g e
            rw [HJ.out.2.2.2.1] at ho; cases ho; cases hc
      · have hun : un b = none := by rw [un, if_neg (fun q => he q.2)]
        rw [decide_eq_false he]
        clear he heq
        dsimp only
        gi_wp2
        obtain ⟨z0, z1, z2, z3⟩ := un_fin _ _ (.slice none 0 0) (.int .i64 2) HJ.out.1 HJ.out.2.1 HJ.out.2.2.2.1 (by omega)
        refine ⟨by simp, .inl ⟨_, _, rfl, run_takeDeferred z0, ?_⟩⟩
        rw [show unL b = [] by rw [unL, hun]; rfl, show unE b = 2 by rw [unE, hun]; rfl]
        refine ⟨.tuple #[.slice none 0 0, .int .i64 2], ?_, ⟨none, 0, rfl, row_nil _ _, fin_below _ _ HJ.out.2.2.2.2.2 (by omega)⟩⟩
        unfold fin at z1 z2
        simp [results, Tryd.results6, go_sem, z1, z2]
    · have hpk := pack_any _ (up b) W hu2.sl
      simp only [hl, if_false] at hpk
      have hun : un b = none := by rw [un, if_neg (fun q => hl q.1)]
      have HI := hid (And.intro hI (And.intro hu2 (And.intro hK (And.intro hIb hl))))
      clear hI hu2 hup hIb hl hln hul
      gi_wp2
      refine ⟨trivial, ?_⟩
      gi_at_call 18
      refine (callsIn_wide.2 hpk).mono ?_
      rintro e w2 ⟨uf, rfl, huf, hb2⟩
      obtain ⟨pf, cf, hfe⟩ := own_val huf
      subst hfe
      have k0 := (hb2.block _ (Array.getElem?_eq_some_iff.1 HI.out.1.r0).1).trans HI.out.1.r0
      have k1 := (hb2.block _ (Array.getElem?_eq_some_iff.1 HI.out.1.r1).1).trans HI.out.1.r1
      have hK2 := (hb2.block D hDl).trans hK
      have hbw := HI.out.2.2.2.1.trans (hb2.mono HI.out.2.2.2.1.size)
      have HJ := hid (And.intro k0 (And.intro k1 (And.intro trivial (And.intro hK2 (And.intro trivial hbw)))))
      have d0 := cell_box k0
      have d1 := cell_box k1
      have f0 := frozen_of_row w2 w.heap.size 0 _ _ k0
      have f1 := frozen_of_row w2 (w.heap.size + 1) 0 _ _ k1
      clear k0 k1 hK2 hbw hb2 huf hpk
      gi_wp2_with (refine ⟨trivial, ?_⟩)
      obtain ⟨z0, z1, z2, z3⟩ := un_fin _ _ (.slice none 0 0) (.int .i64 2) HJ.out.1 HJ.out.2.1 HJ.out.2.2.2.1 (by omega)
      refine ⟨by simp, .inl ⟨_, _, rfl, run_takeDeferred z0, ?_⟩⟩
      rw [show unL b = [] by rw [unL, hun]; rfl, show unE b = 2 by rw [unE, hun]; rfl]
      refine ⟨.tuple #[.slice none 0 0, .int .i64 2], ?_, ⟨none, 0, rfl, row_nil _ _, fin_below _ _ HJ.out.2.2.2.2.2 (by omega)⟩⟩
      unfold fin at z1 z2
      simp [results, Tryd.results6, go_sem, z1, z2]
  case stop =>
    rintro D cc pre W hD hpre ⟨rfl, hX⟩ hK
    have hun : un b = none := by
      rw [un, if_neg]
      rintro ⟨h1, _⟩
      rw [up_ru b.length b (Nat.le_refl _)] at h1
      obtain ⟨t, ht⟩ := hpre
      have := hX.len
      rw [← ht, List.flatMap_append, List.length_append] at h1
      omega
    gi_wp2
    have k0 := blk_grown hX.r0 (grownBy_putObj' _ D (.deferred none)) (fun r e => by cases e; exact ⟨_, hK, rfl⟩)
    have k1 := blk_grown hX.r1 (grownBy_putObj' _ D (.deferred none)) (fun r e => by cases e; exact ⟨_, hK, rfl⟩)
    have d0 := cell_box k0
    have d1 := cell_box k1
    refine ⟨by simp, .inl ⟨_, _, rfl, run_takeDeferred hK, ?_⟩⟩
    rw [show unL b = [] by rw [unL, hun]; rfl, show unE b = 2 by rw [unE, hun]; rfl]
    refine ⟨.tuple #[.slice none 0 0, .int .i64 2], ?_, ⟨none, 0, rfl, row_nil _ _, hX.below.trans (belowK_b (w := w) (Nat.le_refl _) _ D _ _ (by omega) hK rfl rfl)⟩⟩
    simp [results, Tryd.results6, go_sem, d0, d1]
end Go.Proofs.YtlljelfplffglabDoor.H
