import Derived.Test.YteeanomkbclinaaSRow
/-! An element of some cells, stored into a row at an index; a row that make makes. -/
namespace Go.Proofs.Yteeanomkbclinaa.Y
open Go.RowKit
open Go.Proofs
set_option linter.unusedVariables false
set_option linter.unusedSimpArgs false
theorem run_storeVar_at (w : World) (g o : Nat) (t ty : TypeId) (cur cells : Array Value) (hg : w.heap[g]? = some (.cells cur t (0, 0))) (hi : (Try.prog.info? ty).map (·.size) = some cells.size)
    (hfit : o + cells.size ≤ cur.size) (h1 : ∀ v ∈ cells.toList, v.oneCell' = true) :
    (storeVar ty ⟨g, o, none⟩ (.agg cells)).run Try.prog w = .ok () (w.setRow g (cur.toList.take o ++ cells.toList ++ cur.toList.drop (o + cells.size)).toArray) := by
  have := run_storeCells_at Try.prog g o t cells.toList 0 cur w hg (by simpa using hfit) h1
  cases hq : Try.prog.info? ty with
  | none => simp [hq] at hi
  | some i =>
    have hs : cells.size = i.size := by simp [hq] at hi; omega
    simp [storeVar, sizeOf, typeInfo, hq, Value.cells, hs, this]
theorem wpList_store_at {ops : Array Oper} {rest : List Oper} {o : Oper} {a : Act} {w : World} {Q : Exit → Act → World → Prop} (hgd : o.guard = none) (ty : TypeId) (x y : Operand) (ho : o.op = .store ty x y)
    (B : Nat) (e : TypeId) (size g n cap : Nat) (xs : List Value) (hown : w.ownsRow B e size (.slice (some ⟨g, 0, none⟩) n cap) n xs) (k : Nat) (hk : k < n) (cells : List Value) (hc : cells.length = size)
    (hx : a.eval x = .pointer (some ⟨g, k * size, none⟩)) (hy : a.eval y = .agg cells.toArray) (hi : (Try.prog.info? ty).map (·.size) = some size) (h1 : ∀ v ∈ cells, v.oneCell' = true)
    (h : ∀ w', w'.ownsRow B e size (.slice (some ⟨g, 0, none⟩) n cap) n (xs.take (k * size) ++ cells ++ xs.drop (k * size + size)) → (∀ i, i ≠ g → w'.heap[i]? = w.heap[i]?) → w'.heap.size = w.heap.size → w'.os = w.os → w'.tape = w.tape → w'.output = w.output → wpList Try.prog ops Q rest (a.put o.dst undef) w') : wpList Try.prog ops Q (o :: rest) a w :=
  wpList_plain hgd fun _ hK => by
    rcases hown.2 with ⟨h', _⟩ | ⟨g', cap', cur, h', hb, hg, hnc, hcm, hcs, htake⟩
    · simp at h'
    · simp only [Value.slice.injEq, Option.some.injEq, Addr.mk.injEq, and_true, true_and] at h'
      obtain ⟨rfl, rfl⟩ := h'
      have hle : k * size + size ≤ n * size := by
        have : (k + 1) * size ≤ n * size := Nat.mul_le_mul_right size (by omega)
        rw [Nat.succ_mul] at this; exact this
      have hnn : n * size ≤ cap * size := Nat.mul_le_mul_right size hnc
      have hl : xs.length = n * size := hown.1
      have hr := run_storeVar_at w g (k * size) e ty cur cells.toArray hg (by simpa [hc] using hi) (by simp [hc]; omega) (by simpa using h1)
      unfold Oper.wp execOp
      simp only [ho, hx, hy, Instr.storeAt, Instr.sureAddr, Sem.run_bind, Sem.run_pure, Result.andThen_ok, hr]
      refine hK _ _ (h _ ⟨?_, .inr ⟨g, cap, _, rfl, hb, setRow_heap w g _ _ e _ hg, hnc, hcm, ?_, ?_⟩⟩ (fun i hi => setRow_other w g i _ hi) (by simp) rfl rfl rfl)
      · simp only [List.length_append, List.length_take, List.length_drop]; omega
      · simp only [List.size_toArray, List.length_append, List.length_take, List.length_drop, Array.length_toList, hc]; omega
      · simp only [List.size_toArray, hc]
        rw [← htake, List.take_append, List.take_append, List.take_take, Nat.min_eq_right (by omega : k * size ≤ n * size), List.take_take, Nat.min_eq_left (by omega : k * size ≤ n * size)]
        have hcl : cur.toList.length = cap * size := by simpa using hcs
        rw [List.length_append, List.length_take, hcl, Nat.min_eq_left (by omega : k * size ≤ cap * size), hc, List.take_of_length_le (l := cells) (by omega), List.take_drop]
        congr 3
        omega
theorem en_set {α : Type} {e : α → List Value} {s : Nat} (hs : ∀ a, (e a).length = s) (l : List α) (k : Nat) (a : α) (hk : k < l.length) : (S.en e l).take (k * s) ++ e a ++ (S.en e l).drop (k * s + s) = S.en e (l.set k a) := by
  rw [S.en_take hs, show k * s + s = (k + 1) * s by rw [Nat.succ_mul], S.en_drop hs, List.set_eq_take_append_cons_drop, if_pos hk, S.en_append, S.en_cons, List.append_assoc]
theorem run_make_any (W : World) (t e : TypeId) (z : Value) (size bytes : Nat) (ht : Try.prog.underlying t = some (.slice e)) (hinf : (Try.prog.info? e).map (fun i => (i.zero, i.size, i.bytes)) = some (some z, size, bytes)) (n : Nat) (hb : bytes * n ≤ 281474976710656) (h63 : n ≤ maxLen) :
    (Instr.makeSlice t (.int .i64 (n : Int)) (.int .i64 (n : Int))).run Try.prog W = .ok (.slice (some ⟨W.heap.size, 0, none⟩) n n) (W.alloc (.cells (madeCells z.cells (n * size)) e)) := by
  obtain ⟨i0, hi, hz0, hz1, hz2⟩ := info_parts hinf
  have hb' : (i0.bytes : Int) * (n : Int) ≤ 281474976710656 := by
    have h : ((i0.bytes * n : Nat) : Int) ≤ 281474976710656 := by rw [hz2]; omega
    rwa [Int.natCast_mul] at h
  have hr := run_make (P := Try.prog) W t e i0 z ht hi hz0 .i64 .i64 n n (by omega) (Int.le_refl _) hb' (by simp [maxLen] at h63; omega)
  simp only [Int.toNat_natCast, hz1] at hr
  exact hr
end Go.Proofs.Yteeanomkbclinaa.Y
