import Derived.Test.YtgponcjjnjpfkaaGreatPAll
/-! Named. -/
namespace Go.Proofs.YtgponcjjnjpfkaaGreat.P
open Go.RowKit Go.Shelf
open Go.Proofs
set_option linter.unusedVariables false
set_option linter.unusedSimpArgs false
set_option maxHeartbeats 2000000
set_option maxRecDepth 100000
attribute [local go_sem] Oper.semAt_some
theorem all_any (w : World) : Calls Tryz.prog 23 #[] w fun e w' => e = .returned (.func (.func 54) #[] #[]) ∧ w' = w := by
  go_enter Tryz.func23, Tryz.ntmps23
  go_wp2
  go_ret
  exact ⟨rfl, rfl⟩
theorem blk_kept {W W' : World} {row : Option Nat} {b : Nat} {c : Array Value} {t : TypeId} {x : Nat × Nat} (h : W.heap[b]? = some (.cells c t x)) (hg : W.grownBy W' row) (hr : ∀ r, row = some r → ∃ o : Obj, W.heap[r]? = some o ∧ o.isCells = false) : W'.heap[b]? = some (.cells c t x) := by
  refine (hg.block b (S.lt_of h) ?_).trans h
  intro e
  obtain ⟨o, ho, hc⟩ := hr b e.symm
  rw [h] at ho
  cases ho
  cases hc
def rowC (x : Nat) : Array Value := #[.int .i64 (x : Int), .string (nm x), .int .i64 (ri x), .int .i64 (ro x), .int .i64 (rc x), .bool (rb x)]
/-- Named's three blocks. -/
def NB (W : World) (B : Nat) (name : ByteArray) (c : Array Value) (b : Bool) : Prop := W.heap[B]? = some (.cells #[.string name] 9 (0, 0)) ∧ W.heap[B + 1]? = some (.cells c 59 (0, 0)) ∧ W.heap[B + 2]? = some (.cells #[.bool b] 4 (0, 0))
theorem NB.kept {W W' : World} {row : Option Nat} {B : Nat} {name : ByteArray} {c : Array Value} {b : Bool} (h : NB W B name c b) (hg : W.grownBy W' row) (hr : ∀ r, row = some r → ∃ o : Obj, W.heap[r]? = some o ∧ o.isCells = false) : NB W' B name c b :=
  ⟨blk_kept h.1 hg hr, blk_kept h.2.1 hg hr, blk_kept h.2.2 hg hr⟩
theorem ko {W W' : World} (h : KeepsOthers W W') (p : Addr) (v : Value) : KeepsOthers W (W'.setCell p v) := h.trans (KeepsOthers.setCell _ _ _)
theorem named_yes (name : ByteArray) (hne : name.toList.isEmpty = false) (w : World) :
    Calls Tryz.prog 29 #[.string name] w fun e w' => ((∃ x, x ∈ allN ∧ (nm x).toList = name.toList ∧ e = .returned (.tuple #[rowN x, .bool true])) ∨ ((∀ x ∈ allN, (nm x).toList ≠ name.toList) ∧ e = .returned (.tuple #[rowV 0 ⟨#[]⟩ 0 0 0 false, .bool false]))) ∧ Below w.heap.size w w' := by
  refine (callsIn_wide (n := 9)).1 ?_
  refine callsIn_of_wp_marks Tryz.func29 rfl trivial ?_ rfl
  simp only [Tryz.ntmps29, List.size_toArray, List.length_cons, List.length_nil, Nat.reduceAdd, Nat.reduceSub, Array.replicate_succ, Array.replicate_zero, List.push_toArray, List.append_toArray, List.nil_append, List.cons_append]
  gi_wp2_with (refine ⟨trivial, ?_⟩; gi_at_call 23; refine (callsIn_wide.2 (all_any _)).mono ?_; rintro e w' ⟨rfl, rfl⟩)
  obtain ⟨w0, hw0⟩ : ∃ w0, ((w.alloc (.cells #[.string name] 9)).alloc (.cells #[.int .i64 0, .string { data := #[] }, .int .i64 0, .int .i64 0, .int .i64 0, .bool false] 59)).alloc (.cells #[.bool false] 4) = w0 := ⟨_, rfl⟩
  have hB0 : Below w.heap.size w w0 := by rw [← hw0]; exact (((Below.refl _ w).alloc (Nat.le_refl _) _).alloc (by simp) _).alloc (by simp; omega) _
  have hsz : w0.heap.size = w.heap.size + 3 := by rw [← hw0]; simp
  have hN0 : NB w0 w.heap.size name zR false := by
    rw [← hw0]
    have z1 : (w.alloc (.cells #[.string name] 9)).heap.size = w.heap.size + 1 := by simp
    have z2 : ((w.alloc (.cells #[.string name] 9)).alloc (.cells #[.int .i64 0, .string { data := #[] }, .int .i64 0, .int .i64 0, .int .i64 0, .bool false] 59)).heap.size = w.heap.size + 2 := by simp
    refine ⟨?_, ?_, ?_⟩
    · exact (Below.heap_alloc _ _ _ (by omega)).trans ((Below.heap_alloc _ _ _ (by omega)).trans (heap_alloc_new w _))
    · exact (Below.heap_alloc _ _ _ (by omega)).trans (heap_alloc2_new w _ _)
    · have := heap_alloc_new ((w.alloc (.cells #[.string name] 9)).alloc (.cells #[.int .i64 0, .string { data := #[] }, .int .i64 0, .int .i64 0, .int .i64 0, .bool false] 59)) (.cells #[.bool false] 4)
      rw [z2] at this; exact this
  rw [hw0]
  refine wpIn_rangeFunc_ownH rfl (by omega) (gf := 54) (lb := #[]) rfl trivial Tryz.call54 (all_stops 8 w.heap.size (by omega) w0) belowK_t (belowK_b (by omega)) (Below.refl _ _) (fun _ => rfl)
    (fun pre W => ((∀ y ∈ pre, (nm y).toList ≠ name.toList) ∧ NB W w.heap.size name zR false) ∧ Below w.heap.size w W)
    (fun c pre W => (c = .ret ∧ (∃ y, y ∈ pre ∧ (nm y).toList = name.toList ∧ NB W w.heap.size name (rowC y) true)) ∧ Below w.heap.size w W)
    (OwnFrom.and (Own.from (fun s A B row hs hg hr => ⟨hs.1, hs.2.kept hg hr⟩) _) (ownFrom_below (Nat.le_refl _) (by omega)))
    (fun c => OwnFrom.and (Own.from (fun s A B row hs hg hr => ⟨hs.1, by obtain ⟨y, h1, h2, h3⟩ := hs.2; exact ⟨y, h1, h2, h3.kept hg hr⟩⟩) _) (ownFrom_below (Nat.le_refl _) (by omega)))
    ⟨⟨by simp, hN0⟩, hB0⟩
    (fun x a' W => ∃ Bx, w0.heap.size ≤ Bx ∧ W.heap[Bx]? = some (.cells #[.int .i64 (x : Int), .string (nm x), .int .i64 (ri x), .int .i64 (ro x), .int .i64 (rc x), .bool (rb x)] 59 (0, 0)) ∧ a' = { tmps := #[.string name, .pointer (some ⟨w.heap.size, 0, none⟩), .pointer (some ⟨w.heap.size + 1, 0, none⟩), .pointer (some ⟨w.heap.size + 1 + 1, 0, none⟩), .pointer (some ⟨Bx, 0, none⟩), .string name, .bool false, undef, .func (.func 54) #[] #[], .agg #[.int .i64 (x : Int), .string (nm x), .int .i64 (ri x), .int .i64 (ro x), .int .i64 (rc x), .bool (rb x)], undef, undef, undef, undef, undef, undef], defers := [] })
    (fun x a' s A B row hs hg hr => by obtain ⟨Bx, h1, h2, h3⟩ := hs; exact ⟨Bx, h1, blk_kept h2 hg (fun r e => (hr r e).2), h3⟩) ?assign ?body ?done ?stop
  case assign =>
    rintro l pre x W K ⟨⟨hp, hN⟩, hB⟩ hK
    have hs : w0.heap.size ≤ W.heap.size := by have := S.lt_of hN.2.2; omega
    unfold rowV
    gi_wp2
    exact hK _ _ ((KeepsOthers.alloc _ _).from _) ((Below.refl _ W).alloc (by omega) _) ⟨⟨hp, hN.kept (World.grownBy_alloc W _ none) (fun r e => by cases e)⟩, hB.alloc hB.size _⟩ ⟨W.heap.size, hs, heap_alloc_new W _, rfl⟩
  case body =>
    rintro l pre x a' W hl ⟨r, hr⟩ ⟨⟨hp, hN⟩, hB⟩ ⟨Bx, hBx, hX, rfl⟩ hlt
    have cN := S.cell_of W w.heap.size 0 [.string name] 9 _ hN.1 rfl
    have c0 := S.cell_of W Bx 0 [.int .i64 (x : Int), .string (nm x), .int .i64 (ri x), .int .i64 (ro x), .int .i64 (rc x), .bool (rb x)] 59 _ hX rfl
    have c1 := S.cell_of W Bx 1 [.int .i64 (x : Int), .string (nm x), .int .i64 (ri x), .int .i64 (ro x), .int .i64 (rc x), .bool (rb x)] 59 _ hX rfl
    have c2 := S.cell_of W Bx 2 [.int .i64 (x : Int), .string (nm x), .int .i64 (ri x), .int .i64 (ro x), .int .i64 (rc x), .bool (rb x)] 59 _ hX rfl
    have c3 := S.cell_of W Bx 3 [.int .i64 (x : Int), .string (nm x), .int .i64 (ri x), .int .i64 (ro x), .int .i64 (rc x), .bool (rb x)] 59 _ hX rfl
    have c4 := S.cell_of W Bx 4 [.int .i64 (x : Int), .string (nm x), .int .i64 (ri x), .int .i64 (ro x), .int .i64 (rc x), .bool (rb x)] 59 _ hX rfl
    have c5 := S.cell_of W Bx 5 [.int .i64 (x : Int), .string (nm x), .int .i64 (ri x), .int .i64 (ro x), .int .i64 (rc x), .bool (rb x)] 59 _ hX rfl
    have d0 := S.cell_of W (w.heap.size + 1) 0 [.int .i64 0, .string { data := #[] }, .int .i64 0, .int .i64 0, .int .i64 0, .bool false] 59 _ hN.2.1 rfl
    have d1 := S.cell_of W (w.heap.size + 1) 1 [.int .i64 0, .string { data := #[] }, .int .i64 0, .int .i64 0, .int .i64 0, .bool false] 59 _ hN.2.1 rfl
    have d2 := S.cell_of W (w.heap.size + 1) 2 [.int .i64 0, .string { data := #[] }, .int .i64 0, .int .i64 0, .int .i64 0, .bool false] 59 _ hN.2.1 rfl
    have d3 := S.cell_of W (w.heap.size + 1) 3 [.int .i64 0, .string { data := #[] }, .int .i64 0, .int .i64 0, .int .i64 0, .bool false] 59 _ hN.2.1 rfl
    have d4 := S.cell_of W (w.heap.size + 1) 4 [.int .i64 0, .string { data := #[] }, .int .i64 0, .int .i64 0, .int .i64 0, .bool false] 59 _ hN.2.1 rfl
    have d5 := S.cell_of W (w.heap.size + 1) 5 [.int .i64 0, .string { data := #[] }, .int .i64 0, .int .i64 0, .int .i64 0, .bool false] 59 _ hN.2.1 rfl
    have e0 := S.cell_of W (w.heap.size + 2) 0 [.bool false] 4 _ hN.2.2 rfl
    have f1 : ∀ i, W.frozen? ⟨w.heap.size + 1, i, none⟩ = false := fun i => S.frozen_of W (w.heap.size + 1) i [.int .i64 0, .string { data := #[] }, .int .i64 0, .int .i64 0, .int .i64 0, .bool false] 59 hN.2.1
    have f2 := S.frozen_of W (w.heap.size + 2) 0 [.bool false] 4 hN.2.2
    have hne1 : w.heap.size + 1 ≠ w.heap.size + 2 := by omega
    by_cases hx : ((nm x).toList == name.toList) = true
    · gi_wp2
      have q := S.setCell_heap _ (w.heap.size + 1) 5 _ 59 (.bool (rb x)) (S.setCell_heap _ (w.heap.size + 1) 4 _ 59 (.int .i64 (rc x)) (S.setCell_heap _ (w.heap.size + 1) 3 _ 59 (.int .i64 (ro x)) (S.setCell_heap _ (w.heap.size + 1) 2 _ 59 (.int .i64 (ri x)) (S.setCell_heap _ (w.heap.size + 1) 1 _ 59 (.string (nm x)) (S.setCell_heap W (w.heap.size + 1) 0 [.int .i64 0, .string { data := #[] }, .int .i64 0, .int .i64 0, .int .i64 0, .bool false] 59 (.int .i64 (x : Int)) hN.2.1)))))
      have t1 : ∀ (V : World) (i : Nat) (v : Value) (k : Nat), k ≠ w.heap.size + 1 → (V.setCell ⟨w.heap.size + 1, i, none⟩ v).heap[k]? = V.heap[k]? := fun V i v k h => S.setCell_other V _ _ _ _ h
      refine ⟨(ko (ko (ko (ko (ko (ko (ko (KeepsOthers.refl _) _ _) _ _) _ _) _ _) _ _) _ _) _ _).from _, ⟨rfl, x, by simp, eq_of_beq hx, ?_, ?_, ?_⟩, ?_⟩
      · rw [S.setCell_other _ _ _ _ _ (by omega), t1 _ _ _ _ (by omega), t1 _ _ _ _ (by omega), t1 _ _ _ _ (by omega), t1 _ _ _ _ (by omega), t1 _ _ _ _ (by omega), t1 _ _ _ _ (by omega)]; exact hN.1
      · rw [S.setCell_other _ _ _ _ _ (by omega)]; exact q
      · refine S.setCell_heap _ (w.heap.size + 2) 0 [.bool false] 4 _ ?_
        rw [t1 _ _ _ _ (by omega), t1 _ _ _ _ (by omega), t1 _ _ _ _ (by omega), t1 _ _ _ _ (by omega), t1 _ _ _ _ (by omega), t1 _ _ _ _ (by omega)]; exact hN.2.2
      · have t2 : ∀ (V : World), Below w.heap.size w V → ∀ (b i : Nat) (v : Value), w.heap.size ≤ b → Below w.heap.size w (V.setCell ⟨b, i, none⟩ v) := fun V h b i v hb => h.setCell (p := ⟨b, i, none⟩) hb v
        exact t2 _ (t2 _ (t2 _ (t2 _ (t2 _ (t2 _ (t2 _ hB _ _ _ (by omega)) _ _ _ (by omega)) _ _ _ (by omega)) _ _ _ (by omega)) _ _ _ (by omega)) _ _ _ (by omega)) _ _ _ (by omega)
    · have hx' : ((nm x).toList == name.toList) = false := by simpa using hx
      gi_wp2
      refine ⟨KeepsFrom.refl _ _, Below.refl _ _, ⟨fun y hy => ?_, hN⟩, hB⟩
      rcases List.mem_append.1 hy with hy | hy
      · exact hp y hy
      · simp at hy; subst hy; exact fun e => hx (by rw [e]; simp)
  case done =>
    rintro D ys W hD rfl ⟨⟨hne, hN⟩, hB⟩ hK
    have e0 := S.cell_of W (w.heap.size + 2) 0 [.bool false] 4 _ hN.2.2 rfl
    have f2 := S.frozen_of W (w.heap.size + 2) 0 [.bool false] 4 hN.2.2
    have d0 := S.cell_of W (w.heap.size + 1) 0 [.int .i64 0, .string { data := #[] }, .int .i64 0, .int .i64 0, .int .i64 0, .bool false] 59 _ hN.2.1 rfl
    have d1 := S.cell_of W (w.heap.size + 1) 1 [.int .i64 0, .string { data := #[] }, .int .i64 0, .int .i64 0, .int .i64 0, .bool false] 59 _ hN.2.1 rfl
    have d2 := S.cell_of W (w.heap.size + 1) 2 [.int .i64 0, .string { data := #[] }, .int .i64 0, .int .i64 0, .int .i64 0, .bool false] 59 _ hN.2.1 rfl
    have d3 := S.cell_of W (w.heap.size + 1) 3 [.int .i64 0, .string { data := #[] }, .int .i64 0, .int .i64 0, .int .i64 0, .bool false] 59 _ hN.2.1 rfl
    have d4 := S.cell_of W (w.heap.size + 1) 4 [.int .i64 0, .string { data := #[] }, .int .i64 0, .int .i64 0, .int .i64 0, .bool false] 59 _ hN.2.1 rfl
    have d5 := S.cell_of W (w.heap.size + 1) 5 [.int .i64 0, .string { data := #[] }, .int .i64 0, .int .i64 0, .int .i64 0, .bool false] 59 _ hN.2.1 rfl
    have f1 : ∀ i, W.frozen? ⟨w.heap.size + 1, i, none⟩ = false := fun i => S.frozen_of W (w.heap.size + 1) i [.int .i64 0, .string { data := #[] }, .int .i64 0, .int .i64 0, .int .i64 0, .bool false] 59 hN.2.1
    gi_wp2
    have q := S.setCell_heap _ (w.heap.size + 1) 5 _ 59 (.bool false) (S.setCell_heap _ (w.heap.size + 1) 4 _ 59 (.int .i64 0) (S.setCell_heap _ (w.heap.size + 1) 3 _ 59 (.int .i64 0) (S.setCell_heap _ (w.heap.size + 1) 2 _ 59 (.int .i64 0) (S.setCell_heap _ (w.heap.size + 1) 1 _ 59 (.string { data := #[] }) (S.setCell_heap W (w.heap.size + 1) 0 [.int .i64 0, .string { data := #[] }, .int .i64 0, .int .i64 0, .int .i64 0, .bool false] 59 (.int .i64 0) hN.2.1)))))
    have t1 : ∀ (V : World) (i : Nat) (v : Value) (k : Nat), k ≠ w.heap.size + 1 → (V.setCell ⟨w.heap.size + 1, i, none⟩ v).heap[k]? = V.heap[k]? := fun V i v k h => S.setCell_other V _ _ _ _ h
    have hk7 := ko (ko (ko (ko (ko (ko (ko (KeepsOthers.refl W) ⟨w.heap.size + 1, 0, none⟩ (.int .i64 0)) ⟨w.heap.size + 1, 1, none⟩ (.string { data := #[] })) ⟨w.heap.size + 1, 2, none⟩ (.int .i64 0)) ⟨w.heap.size + 1, 3, none⟩ (.int .i64 0)) ⟨w.heap.size + 1, 4, none⟩ (.int .i64 0)) ⟨w.heap.size + 1, 5, none⟩ (.bool false)) ⟨w.heap.size + 2, 0, none⟩ (.bool false)
    have HKK := hk7.same D _ hK rfl
    have HNB : NB (((((((W.setCell ⟨w.heap.size + 1, 0, none⟩ (.int .i64 0)).setCell ⟨w.heap.size + 1, 1, none⟩ (.string { data := #[] })).setCell ⟨w.heap.size + 1, 2, none⟩ (.int .i64 0)).setCell ⟨w.heap.size + 1, 3, none⟩ (.int .i64 0)).setCell ⟨w.heap.size + 1, 4, none⟩ (.int .i64 0)).setCell ⟨w.heap.size + 1, 5, none⟩ (.bool false)).setCell ⟨w.heap.size + 2, 0, none⟩ (.bool false)) w.heap.size name #[.int .i64 0, .string { data := #[] }, .int .i64 0, .int .i64 0, .int .i64 0, .bool false] false := by
      refine ⟨?_, ?_, ?_⟩
      · rw [S.setCell_other _ _ _ _ _ (by omega), t1 _ _ _ _ (by omega), t1 _ _ _ _ (by omega), t1 _ _ _ _ (by omega), t1 _ _ _ _ (by omega), t1 _ _ _ _ (by omega), t1 _ _ _ _ (by omega)]; exact hN.1
      · rw [S.setCell_other _ _ _ _ _ (by omega)]; exact q
      · refine S.setCell_heap _ (w.heap.size + 2) 0 [.bool false] 4 _ ?_
        rw [t1 _ _ _ _ (by omega), t1 _ _ _ _ (by omega), t1 _ _ _ _ (by omega), t1 _ _ _ _ (by omega), t1 _ _ _ _ (by omega), t1 _ _ _ _ (by omega)]; exact hN.2.2
    have t2 : ∀ (V : World), Below w.heap.size w V → ∀ (b i : Nat) (v : Value), w.heap.size ≤ b → Below w.heap.size w (V.setCell ⟨b, i, none⟩ v) := fun V h b i v hb => h.setCell (p := ⟨b, i, none⟩) hb v
    have HBB := t2 _ (t2 _ (t2 _ (t2 _ (t2 _ (t2 _ (t2 _ hB (w.heap.size + 1) 0 (.int .i64 0) (by omega)) (w.heap.size + 1) 1 (.string { data := #[] }) (by omega)) (w.heap.size + 1) 2 (.int .i64 0) (by omega)) (w.heap.size + 1) 3 (.int .i64 0) (by omega)) (w.heap.size + 1) 4 (.int .i64 0) (by omega)) (w.heap.size + 1) 5 (.bool false) (by omega)) (w.heap.size + 2) 0 (.bool false) (by omega)
    have hN5 := NB.kept HNB (grownBy_putObj' _ D (.deferred none)) (fun r e => by cases e; exact ⟨_, HKK, rfl⟩)
    have g0 := S.cell_of _ (w.heap.size + 1) 0 [.int .i64 0, .string { data := #[] }, .int .i64 0, .int .i64 0, .int .i64 0, .bool false] 59 _ hN5.2.1 rfl
    have g1 := S.cell_of _ (w.heap.size + 1) 1 [.int .i64 0, .string { data := #[] }, .int .i64 0, .int .i64 0, .int .i64 0, .bool false] 59 _ hN5.2.1 rfl
    have g2 := S.cell_of _ (w.heap.size + 1) 2 [.int .i64 0, .string { data := #[] }, .int .i64 0, .int .i64 0, .int .i64 0, .bool false] 59 _ hN5.2.1 rfl
    have g3 := S.cell_of _ (w.heap.size + 1) 3 [.int .i64 0, .string { data := #[] }, .int .i64 0, .int .i64 0, .int .i64 0, .bool false] 59 _ hN5.2.1 rfl
    have g4 := S.cell_of _ (w.heap.size + 1) 4 [.int .i64 0, .string { data := #[] }, .int .i64 0, .int .i64 0, .int .i64 0, .bool false] 59 _ hN5.2.1 rfl
    have g5 := S.cell_of _ (w.heap.size + 1) 5 [.int .i64 0, .string { data := #[] }, .int .i64 0, .int .i64 0, .int .i64 0, .bool false] 59 _ hN5.2.1 rfl
    have g6 := S.cell_of _ (w.heap.size + 2) 0 [.bool false] 4 _ hN5.2.2 rfl
    refine ⟨by simp, .inl ⟨_, _, rfl, run_takeDeferred HKK, ?_⟩⟩
    refine ⟨.tuple #[.agg #[.int .i64 0, .string { data := #[] }, .int .i64 0, .int .i64 0, .int .i64 0, .bool false], .bool false], ?_, .inr ⟨hne, rfl⟩, HBB.trans (belowK_b (w := w) (Nat.le_refl _) _ D _ _ (by omega) HKK rfl rfl)⟩
    simp [results, Tryz.results29, go_sem, g0, g1, g2, g3, g4, g5, g6]
  case stop =>
    rintro D c pre W hD hpre ⟨⟨rfl, y, hy, hn, hN⟩, hB⟩ hK
    gi_wp2
    have HKK := hK
    have HNB := hN
    have HBB := hB
    have hN5 := NB.kept HNB (grownBy_putObj' _ D (.deferred none)) (fun r e => by cases e; exact ⟨_, HKK, rfl⟩)
    have g0 := S.cell_of _ (w.heap.size + 1) 0 [.int .i64 (y : Int), .string (nm y), .int .i64 (ri y), .int .i64 (ro y), .int .i64 (rc y), .bool (rb y)] 59 _ hN5.2.1 rfl
    have g1 := S.cell_of _ (w.heap.size + 1) 1 [.int .i64 (y : Int), .string (nm y), .int .i64 (ri y), .int .i64 (ro y), .int .i64 (rc y), .bool (rb y)] 59 _ hN5.2.1 rfl
    have g2 := S.cell_of _ (w.heap.size + 1) 2 [.int .i64 (y : Int), .string (nm y), .int .i64 (ri y), .int .i64 (ro y), .int .i64 (rc y), .bool (rb y)] 59 _ hN5.2.1 rfl
    have g3 := S.cell_of _ (w.heap.size + 1) 3 [.int .i64 (y : Int), .string (nm y), .int .i64 (ri y), .int .i64 (ro y), .int .i64 (rc y), .bool (rb y)] 59 _ hN5.2.1 rfl
    have g4 := S.cell_of _ (w.heap.size + 1) 4 [.int .i64 (y : Int), .string (nm y), .int .i64 (ri y), .int .i64 (ro y), .int .i64 (rc y), .bool (rb y)] 59 _ hN5.2.1 rfl
    have g5 := S.cell_of _ (w.heap.size + 1) 5 [.int .i64 (y : Int), .string (nm y), .int .i64 (ri y), .int .i64 (ro y), .int .i64 (rc y), .bool (rb y)] 59 _ hN5.2.1 rfl
    have g6 := S.cell_of _ (w.heap.size + 2) 0 [.bool true] 4 _ hN5.2.2 rfl
    refine ⟨by simp, .inl ⟨_, _, rfl, run_takeDeferred HKK, ?_⟩⟩
    refine ⟨.tuple #[.agg #[.int .i64 (y : Int), .string (nm y), .int .i64 (ri y), .int .i64 (ro y), .int .i64 (rc y), .bool (rb y)], .bool true], ?_, .inl ⟨y, hpre.subset hy, hn, rfl⟩, HBB.trans (belowK_b (w := w) (Nat.le_refl _) _ D _ _ (by omega) HKK rfl rfl)⟩
    simp [results, Tryz.results29, go_sem, g0, g1, g2, g3, g4, g5, g6]
theorem named_empty (name : ByteArray) (hne : name.toList.isEmpty = true) (w : World) :
    Calls Tryz.prog 29 #[.string name] w fun e w' => e = .returned (.tuple #[rowV 0 ⟨#[]⟩ 0 0 0 false, .bool false]) ∧ Below w.heap.size w w' := by
  go_enter Tryz.func29, Tryz.ntmps29
  go_wp2
  refine bodyPost_ret (v := .tuple #[rowV 0 ⟨#[]⟩ 0 0 0 false, .bool false]) (by simp [results, Tryz.results29, go_sem, rowV]) rfl ⟨rfl, (((Below.refl _ w).alloc (Nat.le_refl _) _).alloc (by simp) _).alloc (by simp; omega) _⟩
end Go.Proofs.YtgponcjjnjpfkaaGreat.P
