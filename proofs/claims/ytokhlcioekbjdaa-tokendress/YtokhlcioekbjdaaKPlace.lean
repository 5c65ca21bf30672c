import Derived.Test.YtokhlcioekbjdaaKTok
import Derived.Test.YtokhlcioekbjdaaTPlaces
/-! token.place, token.End. -/
namespace Go.Proofs.Ytokhlcioekbjdaa.K
open Go.RowKit
open Go.Proofs
open Go.Proofs.Ytokhlcioekbjdaa
open Go.Proofs.Ytokhlcioekbjdaa.T (size_list numE numC)
set_option linter.unusedVariables false
set_option linter.unusedSimpArgs false

theorem place_fin {w w1 : World} {c0 : Array Value} (hz : w1.heap[w.heap.size]? = some (.cells c0 24 (0, 0))) (hb : Below w.heap.size w w1) {a : Act} {p : Int × Int} {q : Tmp} {fn : Func} (hr : fn.results = #[.cell q 24])
    (hp : a.tmps.getD q undef = .pointer (some ⟨w.heap.size, 0, none⟩)) (hd : a.defers = []) :
    bodyPost Try.prog fn (fun e w' => e = .returned (pv p) ∧ Below w.heap.size w w') .ret a (w1.setRow w.heap.size (pc p)) :=
  bodyPost_ret (results_cell_row hr _ _ w.heap.size 24 _ (0, 0) _ hp (setRow_heap w1 w.heap.size _ (pc p) _ _ hz) Try.underlying24 rfl (by exact sizeP)) hd ⟨rfl, Below.setRow hb w.heap.size (Nat.le_refl _) (pc p)⟩
theorem clamp_is (i n : Nat) (h : i ≤ n) : T.clampN (i : Int) n = i := by unfold T.clampN T.clampI; omega
theorem place_any (s : ByteArray) (hs : s.size ≤ 140737488355328) (i : Nat) (hi : i ≤ s.size) (w : World) :
    Calls Try.prog 19 #[.string s, .int .i64 i] w fun e w' => e = .returned (pv (T.place s.data.toList i)) ∧ Below w.heap.size w w' := by
  obtain ⟨wA, hA⟩ : ∃ wA, w.alloc (.cells #[.int .i64 0, .int .i64 0] 24) = wA := ⟨_, rfl⟩
  have hb : Below w.heap.size w wA := by rw [← hA]; exact (Below.refl _ w).alloc (Nat.le_refl _) _
  have hz : wA.heap[w.heap.size]? = some (.cells #[.int .i64 0, .int .i64 0] 24 (0, 0)) := by rw [← hA]; exact heap_alloc_new w _
  obtain ⟨wB, hB⟩ : ∃ wB, wA.alloc (.cells #[.int .i64 (i : Int)] 3) = wB := ⟨_, rfl⟩
  have hbB : Below w.heap.size w wB := by rw [← hB]; exact hb.alloc hb.size _
  have hzB : wB.heap[w.heap.size]? = some (.cells #[.int .i64 0, .int .i64 0] 24 (0, 0)) := by rw [← hB]; exact (Below.heap_alloc _ _ _ (lt_of hz)).trans hz
  have hcall := T.places_any s hs (some ⟨wA.heap.size, 0, none⟩) 1 1 (by omega) (fun _ => (i : Int)) wB (.inr ⟨⟨wA.heap.size, 0, none⟩, rfl, by rw [← hB]; simp, fun j hj => by
    obtain rfl : j = 0 := by omega
    have hn : wB.heap[wA.heap.size]? = some (.cells #[.int .i64 (i : Int)] 3 (0, 0)) := by rw [← hB]; exact heap_alloc_new wA _
    rw [Addr.add_lit]
    exact cell_of_row wB wA.heap.size 0 _ _ _ hn⟩)
  have hw0 : T.posf (T.want s fun _ => (i : Int)) 0 = (T.place s.data.toList i).1 := by
    unfold T.posf T.want; rw [clamp_is i s.size hi]; simp
  have hw1 : T.posf (T.want s fun _ => (i : Int)) 1 = (T.place s.data.toList i).2 := by
    unfold T.posf T.want; rw [clamp_is i s.size hi]; simp
  clear hb hz
  generalize T.place s.data.toList i = p at *
  go_enter Try.func19, Try.ntmps19
  go_wp2_with fail
  refine hcall.mono ?_
  rintro e w1 ⟨rfl, h1, hr⟩
  have c0 := hr.cell 0 (by omega)
  have c1 := hr.cell 1 (by omega)
  rw [hw0] at c0
  rw [hw1] at c1
  have hz1 : w1.heap[w.heap.size]? = some (.cells #[.int .i64 0, .int .i64 0] 24 (0, 0)) := (h1.block _ (lt_of hzB)).trans hzB
  have hb1 : Below w.heap.size w w1 := trB hbB h1 hbB.size
  clear hcall hr hw0 hw1 h1 hbB hzB
  go_wp2_with (refine wpList_store_row rfl 24 _ _ rfl w.heap.size _ rfl rfl 24 #[.int .i64 0, .int .i64 0] hz1 (by exact sizeP) (by rfl) (by simp [Value.oneCell']) ?_)
  exact place_fin hz1 hb1 rfl rfl rfl
theorem end_any (s : ByteArray) (hs : s.size ≤ 140737488355328) (w : World) :
    Calls Try.prog 11 #[.string s] w fun e w' => e = .returned (pv (T.place s.data.toList s.size)) ∧ Below w.heap.size w w' := by
  obtain ⟨wA, hA⟩ : ∃ wA, w.alloc (.cells #[.int .i64 0, .int .i64 0] 24) = wA := ⟨_, rfl⟩
  have hb : Below w.heap.size w wA := by rw [← hA]; exact (Below.refl _ w).alloc (Nat.le_refl _) _
  have hz : wA.heap[w.heap.size]? = some (.cells #[.int .i64 0, .int .i64 0] 24 (0, 0)) := by rw [← hA]; exact heap_alloc_new w _
  have hc := place_any s hs s.size (Nat.le_refl _) wA
  generalize T.place s.data.toList s.size = p at *
  go_enter Try.func11, Try.ntmps11
  go_wp2_with fail
  refine hc.mono ?_
  rintro e w1 ⟨rfl, h1⟩
  have hz1 : w1.heap[w.heap.size]? = some (.cells #[.int .i64 0, .int .i64 0] 24 (0, 0)) := (h1.block _ (lt_of hz)).trans hz
  have hb1 : Below w.heap.size w w1 := trB hb h1 hb.size
  clear hc h1
  go_wp2_with (refine wpList_store_row rfl 24 _ _ rfl w.heap.size _ rfl rfl 24 #[.int .i64 0, .int .i64 0] hz1 (by exact sizeP) (by rfl) (by simp [Value.oneCell', pc]) ?_)
  exact place_fin hz1 hb1 rfl rfl rfl
end Go.Proofs.Ytokhlcioekbjdaa.K
