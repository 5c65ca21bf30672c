import Derived.Test.YtokhlcioekbjdaaKScan
import Derived.Test.YtokhlcioekbjdaaKPlace
/-! token.Scan. -/
namespace Go.Proofs.Ytokhlcioekbjdaa.K
open Go.RowKit
open Go.Proofs
open Go.Proofs.Ytokhlcioekbjdaa
open Go.Proofs.Ytokhlcioekbjdaa.T (size_list numE numC)
set_option linter.unusedVariables false
set_option linter.unusedSimpArgs false

/-- What Scan answers. -/
def ans (s : ByteArray) : List Tk × (Int × Int) × Int :=
  if 65536 < s.size then ([], (1, 1), 90)
  else if (sc s.data.toList).2.2 = 0 then ((sc s.data.toList).1.map (tk s), (0, 0), 0)
  else ([], T.place s.data.toList (sc s.data.toList).2.1, (sc s.data.toList).2.2)
/-- What Scan hands back. -/
structure Sc (w : World) (ts : List Tk) (p : Int × Int) (er : Int) (e : Ending) (w' : World) : Prop where
  out : ∃ v, e = .returned (.tuple #[v, pv p, .int .i64 er]) ∧ w'.ownsRow w.heap.size 30 5 v ts.length (S.en eT ts)
  bel : Below w.heap.size w w'
theorem results_tct {fn : Func} {p u t : Tmp} {ty : TypeId} (h : fn.results = #[.tmp u, .cell p ty, .tmp t]) (tmps : Array Value) (P : Program) (w : World) :
    (results fn tmps).run P w =
      ((asAddr (tmps.getD p undef)).run P w).andThen fun a w₁ => ((loadVar ty a).run P w₁).andThen fun v w₂ => .ok (.tuple #[tmps.getD u undef, v, tmps.getD t undef]) w₂ := by
  simp only [results, h]
  simp [Sem.run_bind, Result.andThen]
theorem scanw_fin {w w1 : World} {c0 : Array Value} (hz : w1.heap[w.heap.size]? = some (.cells c0 24 (0, 0))) (hb : Below w.heap.size w w1) {a : Act} {p : Int × Int} {ts : List Tk} {v : Value} {er : Int} {q u t : Tmp} {fn : Func} (hr : fn.results = #[.tmp u, .cell q 24, .tmp t])
    (hp : a.tmps.getD q undef = .pointer (some ⟨w.heap.size, 0, none⟩)) (h2 : a.tmps.getD u undef = v) (h4 : a.tmps.getD t undef = .int .i64 er) (hd : a.defers = [])
    (ho : w1.ownsRow w.heap.size 30 5 v ts.length (S.en eT ts)) (hne : v.ownBlock ≠ some w.heap.size) :
    bodyPost Try.prog fn (fun e w' => Sc w ts p er e w') .ret a (w1.setRow w.heap.size (pc p)) := by
  refine bodyPost_ret (v := .tuple #[v, pv p, .int .i64 er]) ?_ hd ⟨⟨v, rfl, ?_⟩, Below.setRow hb w.heap.size (Nat.le_refl _) (pc p)⟩
  · rw [results_tct hr, hp, h2, h4]
    simp [asAddr, run_loadVar_row _ w.heap.size _ 24 _ _ _ (setRow_heap w1 w.heap.size _ (pc p) _ _ hz) Try.underlying24 rfl (by exact sizeP), pv]
  · exact S.own_kept ho fun g hg _ => setRow_other w1 w.heap.size g _ (fun e => hne (by rw [hg, e]))
/-- The tokens while their places are being told. -/
def half (s : ByteArray) (a : List (Nat × Nat)) (k : Nat) : List Tk := (a.take k).map (tk s) ++ (a.drop k).map (tk0 s)
theorem half_len (s : ByteArray) (a : List (Nat × Nat)) (k : Nat) : (half s a k).length = a.length := by
  unfold half; simp only [List.length_append, List.length_map, List.length_take, List.length_drop]; omega
theorem half_zero (s : ByteArray) (a : List (Nat × Nat)) : half s a 0 = a.map (tk0 s) := by unfold half; simp
theorem half_all (s : ByteArray) (a : List (Nat × Nat)) : half s a a.length = a.map (tk s) := by unfold half; simp
theorem set_two {β : Type} (a b : List β) (x0 x1 x2 x3 x4 y3 y4 : β) : ((a ++ (x0 :: x1 :: x2 :: x3 :: x4 :: b)).set (a.length + 3) y3).set (a.length + 4) y4 = a ++ (x0 :: x1 :: x2 :: y3 :: y4 :: b) := by
  rw [List.set_append_right _ _ (by omega), List.set_append_right _ _ (by omega), Nat.add_sub_cancel_left, Nat.add_sub_cancel_left]; rfl
theorem half_step (s : ByteArray) (a : List (Nat × Nat)) (k : Nat) (h : k < a.length) :
    ((S.en eT (half s a k)).set (k * 5 + 3) (.int .i64 (T.place s.data.toList a[k].1).1)).set (k * 5 + 4) (.int .i64 (T.place s.data.toList a[k].1).2) = S.en eT (half s a (k + 1)) := by
  have h1 : (S.en eT ((a.take k).map (tk s))).length = k * 5 := by
    rw [S.en_len hT, List.length_map, List.length_take]; congr 1; omega
  have h2 : half s a k = (a.take k).map (tk s) ++ (tk0 s a[k] :: (a.drop (k + 1)).map (tk0 s)) := by
    unfold half; rw [List.drop_eq_getElem_cons h, List.map_cons]
  have h3 : half s a (k + 1) = (a.take k).map (tk s) ++ (tk s a[k] :: (a.drop (k + 1)).map (tk0 s)) := by
    unfold half; rw [List.take_succ_eq_append_getElem h, List.map_append, List.append_assoc]; rfl
  rw [h2, h3, S.en_append, S.en_append, S.en_cons, S.en_cons]
  have := set_two (S.en eT ((a.take k).map (tk s))) (S.en eT ((a.drop (k + 1)).map (tk0 s))) (.int .i64 (tk0 s a[k]).k) (.string (tk0 s a[k]).t) (.int .u16 (tk0 s a[k]).v) (.int .i64 0) (.int .i64 0) (.int .i64 (T.place s.data.toList a[k].1).1) (.int .i64 (T.place s.data.toList a[k].1).2)
  rw [h1] at this
  exact this
end Go.Proofs.Ytokhlcioekbjdaa.K
