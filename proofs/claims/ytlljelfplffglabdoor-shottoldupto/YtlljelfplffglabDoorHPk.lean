import Derived.Test.YtlljelfplffglabDoorHRun
/-! Pack. -/
namespace Go.Proofs.YtlljelfplffglabDoor.H
open Go.RowKit Go.Shelf
open Go.Proofs
open Go.Proofs.YtlljelfplffglabDoor.K
set_option linter.unusedVariables false
set_option linter.unusedSimpArgs false
set_option maxHeartbeats 2000000
set_option maxRecDepth 100000
attribute [local go_sem] Oper.semAt_some
theorem wpListIn_append_bytes {l n : Nat} (w : World) {ops : Array Oper} {rest : List Oper} {o : Oper} {a : Act} {Q : Exit → Act → World → Prop} (hgd : o.guard = none) (s x : Operand)
    (ho : o.op = .call { callee := .builtin .append, args := #[s, x], argTypes := #[23, 23] }) (B : Nat) (v : Value) (m : List UInt8) (hs : a.eval s = v) (hown : Row w B v m)
    (u : Value) (m2 : List UInt8) (hx : a.eval x = u) (hp : Sl w u m2) (hb : m.length + m2.length ≤ room) (hB : B ≤ w.heap.size)
    (h : ∀ v' w', Row w' B v' (m ++ m2) → Grew w w' v v' → wpListIn (Fence.wide.inRound l) n Tryd.prog ops Q rest (a.put o.dst v') w') : wpListIn (Fence.wide.inRound l) n Tryd.prog ops Q (o :: rest) a w :=
  wpListIn_plain hgd fun _ hK => oper_in (fun c e => by rw [ho] at e; cases e) (wp_append_bytes w s x ho B v m hs hown u m2 hx hp hb hB fun v' w' h2 h3 => hK _ _ (h v' w' h2 h3))
theorem Row.cellsOf {W : World} {B : Nat} {v : Value} {l : List UInt8} (h : Row W B v l) (g : Nat) (e : v.ownBlock = some g) : ∃ o : Obj, W.heap[g]? = some o ∧ o.isCells = true := by
  rcases h.2 with ⟨rfl, _⟩ | ⟨g', cap, cur, rfl, _, hg, _⟩
  · simp [Value.ownBlock] at e
  · simp [Value.ownBlock] at e; subst e; exact ⟨_, hg, rfl⟩
theorem row_grown {W W' : World} {row : Option Nat} {B : Nat} {v : Value} {l : List UInt8} (h : Row W B v l) (hg : W.grownBy W' row) (hr : ∀ r, row = some r → ∃ o : Obj, W.heap[r]? = some o ∧ o.isCells = false) : Row W' B v l := by
  refine h.kept fun g e hlt => hg.block g hlt fun e2 => ?_
  obtain ⟨o, ho, hc⟩ := hr g e2.symm
  obtain ⟨o', ho', hc'⟩ := Row.cellsOf h g e
  rw [ho] at ho'; cases ho'; rw [hc] at hc'; cases hc'
theorem blk_grown {W W' : World} {row : Option Nat} {b : Nat} {c : Array Value} {t : TypeId} {x : Nat × Nat} (h : W.heap[b]? = some (.cells c t x)) (hg : W.grownBy W' row) (hr : ∀ r, row = some r → ∃ o : Obj, W.heap[r]? = some o ∧ o.isCells = false) : W'.heap[b]? = some (.cells c t x) := by
  refine (hg.block b (Array.getElem?_eq_some_iff.1 h).1 ?_).trans h
  intro e
  obtain ⟨o, ho, hc⟩ := hr b e.symm
  rw [h] at ho
  cases ho
  cases hc
theorem keeps_grew {W W' : World} {B : Nat} {v v' : Value} {l : List UInt8} (h : Row W B v l) (g : Grew W W' v v') : KeepsOthers W W' :=
  ⟨g.size, fun k o hk ho => (g.block k (Array.getElem?_eq_some_iff.1 hk).1 (fun e => by
    obtain ⟨o', ho', hc'⟩ := Row.cellsOf h k e.symm
    rw [hk] at ho'; cases ho'; rw [ho] at hc'; cases hc')).trans hk⟩
/-- Pack's list so far. -/
structure PI (W0 : World) (pre : List (UInt8 × UInt8)) (W : World) : Prop where
  below : Below W0.heap.size W0 W
  ex : ∃ u, W.heap[W0.heap.size]? = some (.cells #[u] 23 (0, 0)) ∧ Row W (W0.heap.size + 2) u (pre.flatMap pb)
theorem pb_len (pre : List (UInt8 × UInt8)) : (pre.flatMap pb).length = 2 * pre.length := by
  induction pre with
  | nil => rfl
  | cons x r ih => simp [List.flatMap_cons, ih, pb]; omega
theorem pack_any (v : Value) (s : List UInt8) (w : World) (h : Sl w v s) :
    Calls Tryd.prog 18 #[v] w fun e w' => ∃ u, e = .returned (.tuple #[u, .int .i64 (if s.length = 3072 then 0 else 2)]) ∧ Row w' w.heap.size u (if s.length = 3072 then pk s else []) ∧ Below w.heap.size w w' := by
  obtain ⟨p, c, rfl, _⟩ := h.ex
  refine (callsIn_wide (n := 9)).1 ?_
  refine callsIn_of_wp_marks Tryd.func18 rfl trivial ?_ rfl
  simp only [Tryd.ntmps18, List.size_toArray, List.length_cons, List.length_nil, Nat.reduceAdd, Nat.reduceSub, Array.replicate_succ, Array.replicate_zero, List.push_toArray, List.append_toArray, List.nil_append, List.cons_append]
  by_cases hl : s.length = 3072
  case neg =>
    have i0 : ¬ (s.length : Int) = 3072 := by omega
    simp only [hl, if_false]
    gi_wp2
    refine ⟨.tuple #[.slice none 0 0, .int .i64 2], ?_, ⟨_, rfl, row_nil _ _, Below.refl _ _⟩⟩
    simp [results, Tryd.results18, go_sem]
  simp only [hl, if_true]
  have hl2 : s.length = 3072 := hl
  rw [hl2] at h
  gi_wp2_with (refine ⟨trivial, ?_⟩; gi_at_call 36; refine (callsIn_wide.2 (runs_any p 3072 c _)).mono ?_; rintro e w' ⟨rfl, rfl⟩)
  obtain ⟨w0, hw0⟩ : ∃ w0, (w.alloc (.cells #[.slice none 0 0] 23)).alloc (.cells #[.slice p 3072 c] 23) = w0 := ⟨_, rfl⟩
  have sz0 : w0.heap.size = w.heap.size + 2 := by rw [← hw0]; simp
  have hB0 : Below w.heap.size w w0 := by rw [← hw0]; exact ((Below.refl _ w).alloc (Nat.le_refl _) _).alloc (by simp) _
  have hx0 : w0.heap[w.heap.size + 1]? = some (.cells #[.slice p s.length c] 23 (0, 0)) := by rw [← hw0, hl2]; exact heap_alloc2_new w _ _
  have hp0 : w0.heap[w.heap.size]? = some (.cells #[.slice none 0 0] 23 (0, 0)) := by rw [← hw0]; exact (Below.heap_alloc _ _ _ (by simp)).trans (heap_alloc_new w _)
  rw [hw0]
  have hst := runs_stops 8 w.heap.size (w.heap.size + 1) (by omega) p c s (by rw [hl2]; decide) w0 (by omega) (fun W hW => by rw [hl2]; exact h.below (hB0.trans hW)) hx0
  refine wpIn_rangeFunc_ownH rfl (by omega) (gf := 46) (lb := #[.pointer (some ⟨w.heap.size + 1, 0, none⟩)]) rfl trivial Tryd.call46 hst Kq.t (Kq.b (by omega)) (Below.refl _ _) (fun _ => rfl)
    (fun pre W => PI w pre W) (fun _ _ _ => False)
    (fun pre A B row hs hg hr => ⟨hs.below.trans (Below.mono ⟨hg.os, hg.tape, hg.output, hg.size, fun k hk => hg.block k (by have := hs.below.size; omega) (fun e => by have := (hr k e.symm).1; omega)⟩ (Nat.le_refl _)), by
      obtain ⟨u, h1, h2⟩ := hs.ex
      exact ⟨u, blk_grown h1 hg (fun r e => (hr r e).2), row_grown h2 hg (fun r e => (hr r e).2)⟩⟩)
    (fun c pre A B row hs hg hr => hs.elim)
    ⟨hB0, _, hp0, row_nil _ _⟩
    (fun x a' W => a' = { tmps := #[.slice p 3072 c, undef, .slice none 0 0, .int .i64 0, .pointer (some ⟨w.heap.size, 0, none⟩), .int .u8 (x.1.toNat : Int), .int .i64 ((x.2.toNat : Int) + 1), .slice p 3072 c, .int .i64 3072, .bool false, .slice p 3072 c, .func (.func 46) #[] #[.pointer (some ⟨w.heap.size + 1, 0, none⟩)], .int .u8 (x.1.toNat : Int), .int .i64 ((x.2.toNat : Int) + 1), undef, undef, undef, undef, undef, undef, undef, undef], defers := [] })
    (fun x a' s A B row hs hg hr => hs) ?assign ?body ?done ?stop
  case assign =>
    rintro l pre x W K hI hK
    gi_wp2
    exact hK _ _ (KeepsFrom.refl _ _) (Kq.below (Below.refl _ _) (by have := hI.below.size; omega)) hI rfl
  case body =>
    rintro l pre ⟨b, m⟩ a' W hl3 ⟨r, hr⟩ hI rfl hlt
    obtain ⟨u, hu1, hu2⟩ := hI.ex
    obtain ⟨pu, cu, hue⟩ := own_val hu2
    have hIb := hI.below
    rw [hue] at hu1 hu2
    obtain ⟨nu, hnu⟩ : ∃ nu, (pre.flatMap pb).length = nu := ⟨_, rfl⟩
    rw [hnu] at hu1 hu2
    clear hue
    have hsz := hIb.size
    have hlt0 := (Array.getElem?_eq_some_iff.1 hu1).1
    have c0 := cell_box hu1
    have hml := m.toNat_lt
    have hl5 := pb_len pre
    have w1 : IntKind.u8.wrap (m.toNat : Int) = (m.toNat : Int) := by simp [IntKind.wrap, IntKind.bits, IntKind.signed]; omega
    have hba : Below w.heap.size w (W.alloc (.cells (bv [m, b]).toArray 5)) := hIb.alloc hIb.size _
    have hwl : W.heap.size ≥ w.heap.size + 2 := by have := (Array.getElem?_eq_some_iff.1 hr).1; omega
    have hr1 : Row (W.alloc (.cells (bv [m, b]).toArray 5)) (w.heap.size + 2) (.slice pu nu cu) (pre.flatMap pb) := hu2.below ((Below.refl _ _).alloc (Nat.le_refl _) _)
    have hs1 := (row_of_alloc W (w.heap.size + 2) hwl [m, b] (by simp [maxLen])).sl
    have hu3 : (W.alloc (.cells (bv [m, b]).toArray 5)).heap[w.heap.size]? = some (.cells #[.slice pu nu cu] 23 (0, 0)) := (Below.heap_alloc _ _ _ hlt0).trans hu1
    have hka : KeepsOthers W (W.alloc (.cells (bv [m, b]).toArray 5)) := KeepsOthers.alloc _ _
    have hqa : Kq w.heap.size (w.heap.size + 1) W (W.alloc (.cells (bv [m, b]).toArray 5)) := Kq.below ((Below.refl _ _).alloc (Nat.le_refl _) _) (by omega)
    have hsa : w.heap.size + 2 ≤ (W.alloc (.cells (bv [m, b]).toArray 5)).heap.size := by simp; omega
    have hlb : (pre.flatMap pb).length + [m, b].length ≤ room := by rw [pb_len]; unfold room; simp; omega
    have HH := hid (And.intro hr1 (And.intro hs1 (And.intro hu3 (And.intro hka (And.intro hqa (And.intro hba hsa))))))
    clear hr1 hs1 hu3 hka hqa hsa hba
    gi_wp2_with (first | (gi_at_builtin; refine wpListIn_append_bytes _ rfl _ _ rfl (w.heap.size + 2) _ (pre.flatMap pb) rfl HH.out.1 _ [m, b] rfl HH.out.2.1 hlb HH.out.2.2.2.2.2.2 ?_))
    intro v2 w2 hr2 hg0
    obtain ⟨hr1, hs1, hu3, hka, hqa, hba, hsa⟩ := HH.out
    have hg2 : Grew (W.alloc (.cells (bv [m, b]).toArray 5)) w2 (.slice pu nu cu) v2 := hg0
    clear hg0
    have hk2 := hka.trans (keeps_grew hr1 hg2)
    have hne : ∀ g, (Value.slice pu nu cu).ownBlock = some g → w.heap.size + 2 ≤ g := fun g e => (hr1.lt g e).1
    have hb2 : Below w.heap.size w w2 := hba.trans (hg2.below (fun g e => by have := hne g e; omega) (by omega))
    have hu4 := (hg2.block w.heap.size (by omega) (fun e => by have := hne _ e.symm; omega)).trans hu3
    have hq2 : Kq w.heap.size (w.heap.size + 1) W w2 := hqa.t ⟨hg2.below (fun g e => by have := hne g e; omega) (by omega), fun c t f e => (hg2.block (w.heap.size + 1) (by omega) (fun e => by have := hne _ e.symm; omega)).trans e⟩
    obtain ⟨pv, cv, hve⟩ := own_val hr2
    obtain ⟨nv, hnv⟩ : ∃ nv, (pre.flatMap pb ++ [m, b]).length = nv := ⟨_, rfl⟩
    rw [hnv] at hve
    have hge : ∀ g, v2.ownBlock = some g → w.heap.size + 2 ≤ g := fun g e => (hr2.lt g e).1
    have hend : PI w (pre ++ [(b, m)]) (w2.setCell ⟨w.heap.size, 0, none⟩ v2) := by
      refine ⟨hb2.setCell (p := ⟨w.heap.size, 0, none⟩) (Nat.le_refl _) _, v2, ?_, ?_⟩
      · exact heap_setCell_same w2 w.heap.size 0 _ _ _ hu4
      · rw [List.flatMap_append]
        exact hr2.kept fun g e _ => heap_setCell_other w2 ⟨w.heap.size, 0, none⟩ g _ (by have := hge g e; simp; omega)
    have hq3 : Kq w.heap.size (w.heap.size + 1) W (w2.setCell ⟨w.heap.size, 0, none⟩ v2) := hq2.t ⟨(Below.refl _ _).setCell (p := ⟨w.heap.size, 0, none⟩) (Nat.le_refl _) _, fun c t f e => (heap_setCell_other w2 ⟨w.heap.size, 0, none⟩ _ _ (by simp)).trans e⟩
    have hk3 := (hk2.trans (KeepsOthers.setCell w2 ⟨w.heap.size, 0, none⟩ v2)).from w0.heap.size
    subst hve
    have c4 := cell_box hu4
    have f4 := frozen_of_row w2 w.heap.size 0 _ _ hu4
    have HE := hid (And.intro hk3 (And.intro hq3 hend))
    clear HH hr1 hs1 hu3 hka hqa hba hsa hk2 hne hb2 hq2 hge hend hq3 hk3 hr2 hg2
    gi_wp2
    exact HE.out
  case done =>
    rintro D ys W hD rfl hI hK
    obtain ⟨u, hu1, hu2⟩ := hI.ex
    have c0 := cell_box hu1
    obtain ⟨pu, cu, hue⟩ := own_val hu2
    obtain ⟨nu, hnu⟩ : ∃ nu, ((rl s).flatMap pb).length = nu := ⟨_, rfl⟩
    rw [hnu] at hue
    subst hue
    gi_wp2
    have hDs := (Array.getElem?_eq_some_iff.1 hK).1
    refine ⟨by simp, .inl ⟨_, _, rfl, run_takeDeferred hK, ?_⟩⟩
    refine ⟨.tuple #[.slice pu nu cu, .int .i64 0], ?_, ⟨_, rfl, ?_, hI.below.trans (belowK_b (w := w) (Nat.le_refl _) _ D _ _ (by omega) hK rfl rfl)⟩⟩
    · simp [results, Tryd.results18, go_sem]
    · rw [pk_rl]
      exact row_grown (hu2.mono (by omega)) (grownBy_putObj' _ D (.deferred none)) (fun r e => by cases e; exact ⟨_, hK, rfl⟩)
  case stop =>
    rintro D c pre W hD hpre hf
    exact hf.elim
end Go.Proofs.YtlljelfplffglabDoor.H
