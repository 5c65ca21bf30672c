import Derived.Test.YtdnklgceghllaaaGreatDoorKTok
import Derived.Test.YtdnklgceghllaaaGreatDoorTPlaces
import Derived.Test.YtdnklgceghllaaaGreatDoorKScan
namespace Go.Proofs.YtdnklgceghllaaaGreatDoor.K
open Go.RowKit
open Go.Proofs
open Go.Proofs.YtdnklgceghllaaaGreatDoor
open Go.Proofs.YtdnklgceghllaaaGreatDoor.T (size_list numE numC)
set_option linter.unusedVariables false
set_option linter.unusedSimpArgs false
theorem place_fin {w w1 : World} {c0 : Array Value} (hz : w1.heap[w.heap.size]? = some (.cells c0 28 (0, 0))) (hb : Below w.heap.size w w1) {a : Act} {p : Int × Int} {q : Tmp} {fn : Func} (hr : fn.results = #[.cell q 28])
  (hp : a.tmps.getD q undef = .pointer (some ⟨w.heap.size, 0, none⟩)) (hd : a.defers = []) :
  bodyPost Tryz.prog fn (fun e w' => e = .returned (pv p) /\ Below w.heap.size w w') .ret a (w1.setRow w.heap.size (pc p)) :=
 bodyPost_ret (results_cell_row hr _ _ w.heap.size 28 _ (0, 0) _ hp (setRow_heap w1 w.heap.size _ (pc p) _ _ hz) Tryz.underlying28 rfl (by exact sizeP)) hd ⟨rfl, Below.setRow hb w.heap.size (Nat.le_refl _) (pc p)⟩
theorem clamp_is (i n : Nat) (h : i <= n) : T.clampN (i : Int) n = i := by unfold T.clampN T.clampI; omega
theorem place_big (s : ByteArray) (hs : s.size <= 281474976710656) (i : Nat) (hi : i <= s.size) (w : World) :
  Calls Tryz.prog 33 #[.string s, .int .i64 i] w fun e w' => e = .returned (pv (T.place s.data.toList i)) /\ Below w.heap.size w w' := by
 obtain ⟨wA, hA⟩ : ∃ wA, w.alloc (.cells #[.int .i64 0, .int .i64 0] 28) = wA := ⟨_, rfl⟩
 have hb : Below w.heap.size w wA := by rw [<- hA]; exact (Below.refl _ w).alloc (Nat.le_refl _) _
 have hz : wA.heap[w.heap.size]? = some (.cells #[.int .i64 0, .int .i64 0] 28 (0, 0)) := by rw [<- hA]; exact heap_alloc_new w _
 obtain ⟨wB, hB⟩ : ∃ wB, wA.alloc (.cells #[.int .i64 (i : Int)] 3) = wB := ⟨_, rfl⟩
 have hbB : Below w.heap.size w wB := by rw [<- hB]; exact hb.alloc hb.size _
 have hzB : wB.heap[w.heap.size]? = some (.cells #[.int .i64 0, .int .i64 0] 28 (0, 0)) := by rw [<- hB]; exact (Below.heap_alloc _ _ _ (lt_of hz)).trans hz
 have hcall := T.places_big s hs (some ⟨wA.heap.size, 0, none⟩) 1 1 (by omega) (fun _ => (i : Int)) wB (.inr ⟨⟨wA.heap.size, 0, none⟩, rfl, by rw [<- hB]; simp, fun j hj => by
  obtain rfl : j = 0 := by omega
  have hn : wB.heap[wA.heap.size]? = some (.cells #[.int .i64 (i : Int)] 3 (0, 0)) := by rw [<- hB]; exact heap_alloc_new wA _
  rw [Addr.add_lit]
  exact cell_of_row wB wA.heap.size 0 _ _ _ hn⟩)
 have hw0 : T.posf (T.want s fun _ => (i : Int)) 0 = (T.place s.data.toList i).1 := by
  unfold T.posf T.want; rw [clamp_is i s.size hi]; simp
 have hw1 : T.posf (T.want s fun _ => (i : Int)) 1 = (T.place s.data.toList i).2 := by
  unfold T.posf T.want; rw [clamp_is i s.size hi]; simp
 clear hb hz
 generalize T.place s.data.toList i = p at *
 go_enter Tryz.func33, Tryz.ntmps33
 go_wp2_with fail
 refine hcall.mono ?_
 rintro e w1 ⟨rfl, h1, hr⟩
 have c0 := hr.cell 0 (by omega)
 have c1 := hr.cell 1 (by omega)
 rw [hw0] at c0
 rw [hw1] at c1
 have hz1 : w1.heap[w.heap.size]? = some (.cells #[.int .i64 0, .int .i64 0] 28 (0, 0)) := (h1.block _ (lt_of hzB)).trans hzB
 have hb1 : Below w.heap.size w w1 := trB hbB h1 hbB.size
 clear hcall hr hw0 hw1 h1 hbB hzB
 go_wp2_with (refine wpList_store_row rfl 28 _ _ rfl w.heap.size _ rfl rfl 28 #[.int .i64 0, .int .i64 0] hz1 (by exact sizeP) (by rfl) (by simp [Value.oneCell']) ?_)
 exact place_fin hz1 hb1 rfl rfl rfl
theorem place_any (s : ByteArray) (hs : s.size <= 140737488355328) (i : Nat) (hi : i <= s.size) (w : World) :
  Calls Tryz.prog 33 #[.string s, .int .i64 i] w fun e w' => e = .returned (pv (T.place s.data.toList i)) /\ Below w.heap.size w w' :=
 place_big s (by omega) i hi w
theorem end_any (s : ByteArray) (hs : s.size <= 140737488355328) (w : World) :
  Calls Tryz.prog 22 #[.string s] w fun e w' => e = .returned (pv (T.place s.data.toList s.size)) /\ Below w.heap.size w w' := by
 obtain ⟨wA, hA⟩ : ∃ wA, w.alloc (.cells #[.int .i64 0, .int .i64 0] 28) = wA := ⟨_, rfl⟩
 have hb : Below w.heap.size w wA := by rw [<- hA]; exact (Below.refl _ w).alloc (Nat.le_refl _) _
 have hz : wA.heap[w.heap.size]? = some (.cells #[.int .i64 0, .int .i64 0] 28 (0, 0)) := by rw [<- hA]; exact heap_alloc_new w _
 have hc := place_any s hs s.size (Nat.le_refl _) wA
 generalize T.place s.data.toList s.size = p at *
 go_enter Tryz.func22, Tryz.ntmps22
 go_wp2_with fail
 refine hc.mono ?_
 rintro e w1 ⟨rfl, h1⟩
 have hz1 : w1.heap[w.heap.size]? = some (.cells #[.int .i64 0, .int .i64 0] 28 (0, 0)) := (h1.block _ (lt_of hz)).trans hz
 have hb1 : Below w.heap.size w w1 := trB hb h1 hb.size
 clear hc h1
 go_wp2_with (refine wpList_store_row rfl 28 _ _ rfl w.heap.size _ rfl rfl 28 #[.int .i64 0, .int .i64 0] hz1 (by exact sizeP) (by rfl) (by simp [Value.oneCell', pc]) ?_)
 exact place_fin hz1 hb1 rfl rfl rfl
end Go.Proofs.YtdnklgceghllaaaGreatDoor.K
namespace Go.Proofs.YtdnklgceghllaaaGreatDoor.K
open Go.RowKit
open Go.Proofs
open Go.Proofs.YtdnklgceghllaaaGreatDoor
open Go.Proofs.YtdnklgceghllaaaGreatDoor.T (size_list numE numC)
set_option linter.unusedVariables false
set_option linter.unusedSimpArgs false
def ans (s : ByteArray) : List Tk × (Int × Int) × Int :=
 if 65536 < s.size then ([], (1, 1), 90)
 else if (sc s.data.toList).2.2 = 0 then ((sc s.data.toList).1.map (tk s), (0, 0), 0)
 else ([], T.place s.data.toList (sc s.data.toList).2.1, (sc s.data.toList).2.2)
structure Sc (w : World) (ts : List Tk) (p : Int × Int) (er : Int) (e : Ending) (w' : World) : Prop where
 out : ∃ v, e = .returned (.tuple #[v, pv p, .int .i64 er]) /\ w'.ownsRow w.heap.size 53 5 v ts.length (S.en eT ts)
 bel : Below w.heap.size w w'
theorem results_tct {fn : Func} {p u t : Tmp} {ty : TypeId} (h : fn.results = #[.tmp u, .cell p ty, .tmp t]) (tmps : Array Value) (P : Program) (w : World) :
  (results fn tmps).run P w =
   ((asAddr (tmps.getD p undef)).run P w).andThen fun a w₁ => ((loadVar ty a).run P w₁).andThen fun v w₂ => .ok (.tuple #[tmps.getD u undef, v, tmps.getD t undef]) w₂ := by
 simp only [results, h]
 simp [Sem.run_bind, Result.andThen]
theorem scanw_fin {w w1 : World} {c0 : Array Value} (hz : w1.heap[w.heap.size]? = some (.cells c0 28 (0, 0))) (hb : Below w.heap.size w w1) {a : Act} {p : Int × Int} {ts : List Tk} {v : Value} {er : Int} {q u t : Tmp} {fn : Func} (hr : fn.results = #[.tmp u, .cell q 28, .tmp t])
  (hp : a.tmps.getD q undef = .pointer (some ⟨w.heap.size, 0, none⟩)) (h2 : a.tmps.getD u undef = v) (h4 : a.tmps.getD t undef = .int .i64 er) (hd : a.defers = [])
  (ho : w1.ownsRow w.heap.size 53 5 v ts.length (S.en eT ts)) (hne : v.ownBlock ≠ some w.heap.size) :
  bodyPost Tryz.prog fn (fun e w' => Sc w ts p er e w') .ret a (w1.setRow w.heap.size (pc p)) := by
 refine bodyPost_ret (v := .tuple #[v, pv p, .int .i64 er]) ?_ hd ⟨⟨v, rfl, ?_⟩, Below.setRow hb w.heap.size (Nat.le_refl _) (pc p)⟩
 ·rw [results_tct hr, hp, h2, h4]
  simp [asAddr, run_loadVar_row _ w.heap.size _ 28 _ _ _ (setRow_heap w1 w.heap.size _ (pc p) _ _ hz) Tryz.underlying28 rfl (by exact sizeP), pv]
 ·exact S.own_kept ho fun g hg _ => setRow_other w1 w.heap.size g _ (fun e => hne (by rw [hg, e]))
def half (s : ByteArray) (a : List (Nat × Nat)) (k : Nat) : List Tk := (a.take k).map (tk s) ++ (a.drop k).map (tk0 s)
theorem half_len (s : ByteArray) (a : List (Nat × Nat)) (k : Nat) : (half s a k).length = a.length := by
 unfold half; simp only [List.length_append, List.length_map, List.length_take, List.length_drop]; omega
theorem half_zero (s : ByteArray) (a : List (Nat × Nat)) : half s a 0 = a.map (tk0 s) := by unfold half; simp
theorem half_all (s : ByteArray) (a : List (Nat × Nat)) : half s a a.length = a.map (tk s) := by unfold half; simp
theorem set_two {β : Type} (a b : List β) (x0 x1 x2 x3 x4 y3 y4 : β) : ((a ++ (x0 :: x1 :: x2 :: x3 :: x4 :: b)).set (a.length + 3) y3).set (a.length + 4) y4 = a ++ (x0 :: x1 :: x2 :: y3 :: y4 :: b) := by
 rw [List.set_append_right _ _ (by omega), List.set_append_right _ _ (by omega), Nat.add_sub_cancel_left, Nat.add_sub_cancel_left]; rfl
theorem half_step (s : ByteArray) (a : List (Nat × Nat)) (k : Nat) (h : k < a.length) :
  ((S.en eT (half s a k)).set (k * 5 + 3) (.int .i64 (T.place s.data.toList a[k].1).1)).set (k * 5 + 4) (.int .i64 (T.place s.data.toList a[k].1).2) = S.en eT (half s a (k + 1)) := by
 have h1 : (S.en eT ((a.take k).map (tk s))).length = k * 5 := by
  rw [S.en_len hT, List.length_map, List.length_take]; congr 1; omega
 have h2 : half s a k = (a.take k).map (tk s) ++ (tk0 s a[k] :: (a.drop (k + 1)).map (tk0 s)) := by
  unfold half; rw [List.drop_eq_getElem_cons h, List.map_cons]
 have h3 : half s a (k + 1) = (a.take k).map (tk s) ++ (tk s a[k] :: (a.drop (k + 1)).map (tk0 s)) := by
  unfold half; rw [List.take_succ_eq_append_getElem h, List.map_append, List.append_assoc]; rfl
 rw [h2, h3, S.en_append, S.en_append, S.en_cons, S.en_cons]
 have := set_two (S.en eT ((a.take k).map (tk s))) (S.en eT ((a.drop (k + 1)).map (tk0 s))) (.int .i64 (tk0 s a[k]).k) (.string (tk0 s a[k]).t) (.int .u16 (tk0 s a[k]).v) (.int .i64 0) (.int .i64 0) (.int .i64 (T.place s.data.toList a[k].1).1) (.int .i64 (T.place s.data.toList a[k].1).2)
 rw [h1] at this
 exact this
theorem sc_in (l : List UInt8) : (sc l).1.length <= l.length /\ (sc l).2.1 <= l.length /\ (∀ q ∈ (sc l).1, q.1 < q.2 /\ q.2 <= l.length) := by
 obtain ⟨i, a, hA, hP, h⟩ := At.ends l (P := fun i a => ∀ q ∈ a, q.1 < q.2 /\ q.2 <= l.length) (by simp) (fun i j a _ h _ _ => h) (fun i j a hA h hi e => by
  have := sp_wo l i j hi e
  intro q hq
  rcases List.mem_append.1 hq with hq | hq
  ·exact h q hq
  ·simp at hq; subst hq; exact ⟨this.1, this.2.1⟩)
 have h1 := hA.few
 have h2 := hA.le
 rcases h with ⟨_, e⟩ | ⟨x, _, _, e⟩ <;> rw [e] <;> exact ⟨Nat.le_trans h1 h2, h2, hP⟩
theorem scan_lbig (s : ByteArray) (hs : s.size <= 281474976710656) (h : 65536 < s.size) (w : World) :
  Calls Tryz.prog 14 #[.string s] w fun e w' => Sc w [] (1, 1) 90 e w' := by
 obtain ⟨wA, hA⟩ : ∃ wA, w.alloc (.cells #[.int .i64 0, .int .i64 0] 28) = wA := ⟨_, rfl⟩
 have hb : Below w.heap.size w wA := by rw [<- hA]; exact (Below.refl _ w).alloc (Nat.le_refl _) _
 have hz : wA.heap[w.heap.size]? = some (.cells #[.int .i64 0, .int .i64 0] 28 (0, 0)) := by rw [<- hA]; exact heap_alloc_new w _
 have hc := place_big s hs 0 (Nat.zero_le _) wA
 rw [T.place_zero] at hc
 simp only [Int.ofNat_zero] at hc
 go_enter Tryz.func14, Tryz.ntmps14
 go_wp2_with fail
 refine hc.mono ?_
 rintro e w1 ⟨rfl, h1⟩
 have hz1 : w1.heap[w.heap.size]? = some (.cells #[.int .i64 0, .int .i64 0] 28 (0, 0)) := (h1.block _ (lt_of hz)).trans hz
 have hb1 : Below w.heap.size w w1 := trB hb h1 hb.size
 go_wp2_with (refine wpList_store_row rfl 28 _ _ rfl w.heap.size _ rfl rfl 28 #[.int .i64 0, .int .i64 0] hz1 (by exact sizeP) (by rfl) (by simp [Value.oneCell', pc]) ?_)
 exact scanw_fin hz1 hb1 rfl rfl rfl rfl rfl (World.ownsRow_nil _ _ _ _) (by simp [Value.ownBlock])
theorem scan_err (s : ByteArray) (hs : s.size <= 65536) (er : Int) (i : Nat) (a : List (Nat × Nat)) (hsc : sc s.data.toList = (a, i, er)) (hne : er ≠ 0) (w : World) :
  Calls Tryz.prog 14 #[.string s] w fun e w' => Sc w [] (T.place s.data.toList i) er e w' := by
 obtain ⟨wA, hA⟩ : ∃ wA, w.alloc (.cells #[.int .i64 0, .int .i64 0] 28) = wA := ⟨_, rfl⟩
 have hb : Below w.heap.size w wA := by rw [<- hA]; exact (Below.refl _ w).alloc (Nat.le_refl _) _
 have hz : wA.heap[w.heap.size]? = some (.cells #[.int .i64 0, .int .i64 0] 28 (0, 0)) := by rw [<- hA]; exact heap_alloc_new w _
 have hi : i <= s.size := by have := (sc_in s.data.toList).2.1; rw [hsc, size_list] at this; exact this
 have hS := scan_any s hs wA
 unfold ScanO at hS
 rw [hsc] at hS
 have hP := fun W => place_any s (by omega) i hi W
 generalize T.place s.data.toList i = p at *
 have e1 : decide (er = 0) = false := decide_eq_false hne
 clear hsc
 go_enter Tryz.func14, Tryz.ntmps14
 go_wp2_with fail
 refine hS.mono ?_
 rintro e w1 ⟨vT, vB, rfl, hB⟩
 have hb1 := hB.bel
 clear hB
 go_wp2_with fail
 refine (hP _).mono ?_
 rintro e w2 ⟨rfl, h2⟩
 have hz1 : w1.heap[w.heap.size]? = some (.cells #[.int .i64 0, .int .i64 0] 28 (0, 0)) := (hb1.block _ (lt_of hz)).trans hz
 have hz2 : w2.heap[w.heap.size]? = some (.cells #[.int .i64 0, .int .i64 0] 28 (0, 0)) := (h2.block _ (lt_of hz1)).trans hz1
 have hb2 : Below w.heap.size w w2 := trB (trB hb hb1 hb.size) h2 (Nat.le_trans hb.size hb1.size)
 go_wp2_with (refine wpList_store_row rfl 28 _ _ rfl w.heap.size _ rfl rfl 28 #[.int .i64 0, .int .i64 0] hz2 (by exact sizeP) (by rfl) (by simp [Value.oneCell', pc]) ?_)
 exact scanw_fin hz2 hb2 rfl rfl rfl rfl rfl (World.ownsRow_nil _ _ _ _) (by simp [Value.ownBlock])
theorem begs_form {W : World} {B : Nat} {v : Value} {l : List Int} (h : W.ownsRow B 3 1 v l.length (S.en eI l)) : ∃ p c, v = .slice p l.length c /\ (l.length = 0 \/ ∃ x, p = some x /\ x.block < W.heap.size /\ ∀ j, j < l.length -> W.cell? (x.add j) = some (.int .i64 (l.getD j 0))) := by
 have h' := h
 rcases h.2 with ⟨rfl, e⟩ | ⟨g, cap, cur, rfl, _, hg, _⟩
 ·exact ⟨none, 0, by rw [e], .inl e⟩
 ·refine ⟨some ⟨g, 0, none⟩, cap, rfl, .inr ⟨_, rfl, lt_of hg, fun j hj => ?_⟩⟩
  have := World.ownsRow.cells h' (g := g) rfl j (.int .i64 (l.getD j 0)) (by
   have := S.en_get hI l j 0 (l.getD j 0) (by rw [List.getD_eq_getElem?_getD, List.getElem?_eq_getElem hj]; rfl) (by decide)
   simpa [eI] using this)
  exact this
theorem toks_form {W : World} {B : Nat} {v : Value} {n : Nat} {xs : List Value} (h : W.ownsRow B 53 5 v n xs) : ∃ p c, v = .slice p n c /\ (0 < n -> ∃ g, p = some ⟨g, 0, none⟩ /\ B <= g /\ g < W.heap.size) := by
 rcases h.2 with ⟨rfl, e⟩ | ⟨g, cap, cur, rfl, hb, hg, _⟩
 ·exact ⟨none, 0, by rw [e], fun h => by omega⟩
 ·exact ⟨some ⟨g, 0, none⟩, cap, rfl, fun _ => ⟨g, rfl, hb, lt_of hg⟩⟩
set_option maxHeartbeats 4000000 in
set_option maxRecDepth 20000 in
theorem scan_ok (s : ByteArray) (hs : s.size <= 65536) (i : Nat) (a : List (Nat × Nat)) (hsc : sc s.data.toList = (a, i, 0)) (w : World) :
  Calls Tryz.prog 14 #[.string s] w fun e w' => Sc w (a.map (tk s)) (0, 0) 0 e w' := by
 obtain ⟨wA, hA⟩ : ∃ wA, w.alloc (.cells #[.int .i64 0, .int .i64 0] 28) = wA := ⟨_, rfl⟩
 have hb : Below w.heap.size w wA := by rw [<- hA]; exact (Below.refl _ w).alloc (Nat.le_refl _) _
 have hzA : wA.heap.size = w.heap.size + 1 := by rw [<- hA]; simp
 have hz : wA.heap[w.heap.size]? = some (.cells #[.int .i64 0, .int .i64 0] 28 (0, 0)) := by rw [<- hA]; exact heap_alloc_new w _
 have hin := sc_in s.data.toList
 rw [hsc, size_list] at hin
 obtain ⟨hn, _, hq⟩ := hin
 simp only at hn hq
 have hS := scan_any s hs wA
 unfold ScanO at hS
 rw [hsc] at hS
 simp only at hS
 have hwant : ∀ k (hk : k < a.length), T.want s (fun j => (a.map fun q => (q.1 : Int)).getD j 0) k = T.place s.data.toList a[k].1 := by
  intro k hk
  unfold T.want
  have h1 : (a.map fun q => (q.1 : Int)).getD k 0 = (a[k].1 : Int) := by
   rw [List.getD_eq_getElem?_getD, List.getElem?_map, List.getElem?_eq_getElem hk]; rfl
  have h2 := hq a[k] (List.getElem_mem hk)
  show T.place s.data.toList (T.clampN ((a.map fun q => (q.1 : Int)).getD k 0) s.size) = _
  rw [h1, clamp_is _ _ (by omega)]
 have HW := hid hwant
 clear hsc hq hwant
 go_enter Tryz.func14, Tryz.ntmps14
 go_wp2_with fail
 refine hS.mono ?_
 rintro e w1 ⟨vT, vB, rfl, hB⟩
 obtain ⟨pB, cB, rfl, hbc⟩ := begs_form hB.begs
 rw [len_map] at hbc
 rw [len_map]
 have hP := T.places_any s (by omega) pB a.length cB (by omega) (fun j => (a.map fun q => (q.1 : Int)).getD j 0) w1 hbc
 have hO1 := hB.toks
 have hb1 := hB.bel
 rw [len_map] at hO1
 have hz1 : w1.heap[w.heap.size]? = some (.cells #[.int .i64 0, .int .i64 0] 28 (0, 0)) := (hb1.block _ (lt_of hz)).trans hz
 clear hB hS hbc
 go_wp2_with fail
 refine hP.mono ?_
 rintro e w2 ⟨rfl, h2, hr2⟩
 have hz2 : w2.heap[w.heap.size]? = some (.cells #[.int .i64 0, .int .i64 0] 28 (0, 0)) := (h2.block _ (lt_of hz1)).trans hz1
 have hb2 : Below w.heap.size w w2 := trB (trB hb hb1 hb.size) h2 (Nat.le_trans hb.size hb1.size)
 have hO2 : w2.ownsRow wA.heap.size 53 5 vT a.length (S.en eT (half s a 0)) := by
  rw [half_zero]; exact S.own_kept hO1 fun g _ hg => h2.block g hg
 obtain ⟨pT, cT, rfl, hT⟩ := toks_form hO2
 have hbp : w1.heap.size + 1 < w2.heap.size := hr2.lt
 have hgp : ∀ g, pT = some ⟨g, 0, none⟩ -> 0 < a.length -> g ≠ w1.heap.size + 1 := by
  intro g e h0 eg
  obtain ⟨g', e', _, hlt⟩ := hT h0
  have := (hO1.lt g (by rw [e]; rfl)).2
  omega
 have HG := hid hgp
 have HT := hid hT
 have HR := hid hr2
 have HO := hid hO2
 have HZ := hid hz2
 have HB := hid hb2
 clear hO1 hb1 hz1 h2 hr2 hP hO2 hT hz2 hb2 hgp
 generalize w1.heap.size + 1 = bp at *
 go_wp2_with fail
 go_loopw [33] (fun x wr => ∃ k : Nat, x = .int .i64 (k : Int) /\ k <= a.length /\ wr.ownsRow wA.heap.size 53 5 (.slice pT a.length cT) a.length (S.en eT (half s a k)) /\ T.IRow wr bp 28 (T.posf (T.want s fun j => (a.map fun q => (q.1 : Int)).getD j 0)) (a.length * 2) /\ wr.heap[w.heap.size]? = some (.cells #[.int .i64 0, .int .i64 0] 28 (0, 0)) /\ Below w.heap.size w wr) (fun x _ => a.length - (Lib.intOf x).toNat)
 case atStart => exact ⟨0, rfl, Nat.zero_le _, HO.out, HR.out, HZ.out, HB.out⟩
 case round =>
  obtain ⟨k, rfl, hk, hO, hR, hZ, hB⟩ := hrel
  by_cases hlt : k < a.length
  ·obtain ⟨g, rfl, hg1, _⟩ := HT.out (by omega)
   have hgb := HG.out g rfl (by omega)
   have i1 : (k : Int) < (a.length : Int) := by omega
   have c0 := hR.cell (k * 2) (by omega)
   have c1 := hR.cell (k * 2 + 1) (by omega)
   have w0 : T.posf (T.want s fun j => (a.map fun q => (q.1 : Int)).getD j 0) (k * 2) = (T.place s.data.toList a[k].1).1 := by
    rw [<- HW.out k hlt]; unfold T.posf; rw [if_pos (by omega), show k * 2 / 2 = k by omega]
   have w1' : T.posf (T.want s fun j => (a.map fun q => (q.1 : Int)).getD j 0) (k * 2 + 1) = (T.place s.data.toList a[k].1).2 := by
    rw [<- HW.out k hlt]; unfold T.posf; rw [if_neg (by omega), show (k * 2 + 1) / 2 = k by omega]
   rw [w0] at c0
   rw [w1'] at c1
   have hgl : g < wr.heap.size := (hO.lt g rfl).2
   have hbl : bp < wr.heap.size := hR.lt
   obtain ⟨W1, hA1⟩ : ∃ W1, wr.alloc (.cells #[.int .i64 0, .int .i64 0] 28) = W1 := ⟨_, rfl⟩
   have hz1 : W1.heap[wr.heap.size]? = some (.cells #[.int .i64 0, .int .i64 0] 28 (0, 0)) := by rw [<- hA1]; exact heap_alloc_new wr _
   have hbb1 : Below wr.heap.size wr W1 := by rw [<- hA1]; exact bel_alloc wr _
   have hstep := half_step s a k hlt
   generalize hpp : T.place s.data.toList a[k].1 = pp at *
   obtain ⟨W2, hA2⟩ : ∃ W2, W1.setRow wr.heap.size #[.int .i64 pp.1, .int .i64 pp.2] = W2 := ⟨_, rfl⟩
   have hz2 : W2.heap[wr.heap.size]? = some (.cells #[.int .i64 pp.1, .int .i64 pp.2] 28 (0, 0)) := by rw [<- hA2]; exact setRow_heap W1 wr.heap.size _ _ _ _ hz1
   have hbb2 : Below wr.heap.size wr W2 := by rw [<- hA2]; exact Below.setRow hbb1 wr.heap.size (Nat.le_refl _) _
   have q0 : W2.cell? ⟨wr.heap.size, 0, none⟩ = some (.int .i64 pp.1) := cell_of_row _ _ 0 _ _ _ hz2
   have q1 : W2.cell? ⟨wr.heap.size, 1, none⟩ = some (.int .i64 pp.2) := cell_of_row _ _ 1 _ _ _ hz2
   have hO2 : W2.ownsRow wA.heap.size 53 5 (.slice (some ⟨g, 0, none⟩) a.length cT) a.length (S.en eT (half s a k)) := S.own_kept hO fun g' _ hg' => hbb2.block g' hg'
   have hel : (S.en eT (half s a k)).length = a.length * 5 := by rw [S.en_len hT, half_len]
   obtain ⟨y3, d3⟩ : ∃ y, W2.cell? ⟨g, k * 5 + 3, none⟩ = some y := by rw [hO2.cellAt (k * 5 + 3) (by omega)]; exact ⟨_, List.getElem?_eq_getElem (by omega)⟩
   obtain ⟨y4, d4⟩ : ∃ y, W2.cell? ⟨g, k * 5 + 4, none⟩ = some y := by rw [hO2.cellAt (k * 5 + 4) (by omega)]; exact ⟨_, List.getElem?_eq_getElem (by omega)⟩
   have z3 := hO2.frozenAt (k * 5 + 3)
   have z4 := hO2.frozenAt (k * 5 + 4)
   obtain ⟨hO3, hgr3⟩ := hO2.stored (k * 5 + 3) (.int .i64 pp.1)
   obtain ⟨hO4, hgr4⟩ := hO3.stored (k * 5 + 4) (.int .i64 pp.2)
   rw [hstep] at hO4
   have hkeep : ∀ b, b < wr.heap.size -> b ≠ g -> ((W2.setCell ⟨g, k * 5 + 3, none⟩ (.int .i64 pp.1)).setCell ⟨g, k * 5 + 4, none⟩ (.int .i64 pp.2)).heap[b]? = wr.heap[b]? := fun b hb' hn' => by
    rw [S.setCell_other _ _ _ _ _ hn', S.setCell_other _ _ _ _ _ hn']; exact hbb2.block b hb'
   have hR4 : T.IRow ((W2.setCell ⟨g, k * 5 + 3, none⟩ (.int .i64 pp.1)).setCell ⟨g, k * 5 + 4, none⟩ (.int .i64 pp.2)) bp 28 (T.posf (T.want s fun j => (a.map fun q => (q.1 : Int)).getD j 0)) (a.length * 2) := hR.kept (hkeep bp hbl (by omega))
   have hZ4 := (hkeep w.heap.size (lt_of hZ) (by omega)).trans hZ
   have hB4 : Below w.heap.size w ((W2.setCell ⟨g, k * 5 + 3, none⟩ (.int .i64 pp.1)).setCell ⟨g, k * 5 + 4, none⟩ (.int .i64 pp.2)) :=
    ((trB hB hbb2 hB.size).setCell (p := ⟨g, k * 5 + 3, none⟩) (by show _ <= g; omega) _).setCell (p := ⟨g, k * 5 + 4, none⟩) (by show _ <= g; omega) _
   have HX := hid (And.intro hO4 (And.intro hR4 (And.intro hZ4 hB4)))
   clear hO hR hZ hB hO2 hO3 hO4 hgr3 hgr4 hR4 hZ4 hB4 hkeep hstep hel hz2 hbb1 hbb2 w0 w1' HW
   go_upto_region 9 with (refine wpList_store_row rfl 28 _ _ rfl wr.heap.size _ rfl rfl 28 #[.int .i64 0, .int .i64 0] hz1 (by exact sizeP) (by rfl) (by simp [Value.oneCell']) ?_)
   go_wp2_with fail
   obtain ⟨x1, x2, x3, x4⟩ := HX.out
   go_roundw
   case rel => exact ⟨k + 1, by simp, by omega, x1, x2, x3, x4⟩
   case measure => simp only [Lib.intOf]; omega
  ·obtain rfl : k = a.length := by omega
   rw [half_all] at hO
   have hne : (Value.slice pT a.length cT).ownBlock ≠ some w.heap.size := fun e => by have := (hO.lt _ e).1; omega
   rw [<- len_map (tk s) a] at hO
   have HO := hid hO
   have HB := hid hB
   clear hO hB hR
   go_wp2_with (refine wpList_store_row rfl 28 _ _ rfl w.heap.size _ rfl rfl 28 #[.int .i64 0, .int .i64 0] hZ (by exact sizeP) (by rfl) (by simp [Value.oneCell']) ?_)
   exact scanw_fin (p := (0, 0)) hZ HB.out rfl rfl rfl rfl rfl (by have := HO.out; rw [len_map] at this ⊢; exact S.own_mono this (by omega)) hne
theorem scanw_big (s : ByteArray) (hs : s.size <= 281474976710656) (w : World) :
  Calls Tryz.prog 14 #[.string s] w fun e w' => Sc w (ans s).1 (ans s).2.1 (ans s).2.2 e w' := by
 unfold ans
 by_cases h : 65536 < s.size
 ·rw [if_pos h]; exact scan_lbig s hs h w
 ·rw [if_neg h]
  obtain ⟨a, i, er, hsc⟩ : ∃ a i er, sc s.data.toList = (a, i, er) := ⟨_, _, _, rfl⟩
  rw [hsc]
  by_cases he : er = 0
  ·subst he; simp only [if_true]; exact scan_ok s (by omega) i a hsc w
  ·simp only [if_neg he]; exact scan_err s (by omega) er i a hsc he w
theorem scanw_any (s : ByteArray) (hs : s.size <= 140737488355328) (w : World) :
  Calls Tryz.prog 14 #[.string s] w fun e w' => Sc w (ans s).1 (ans s).2.1 (ans s).2.2 e w' :=
 scanw_big s (by omega) w
end Go.Proofs.YtdnklgceghllaaaGreatDoor.K
