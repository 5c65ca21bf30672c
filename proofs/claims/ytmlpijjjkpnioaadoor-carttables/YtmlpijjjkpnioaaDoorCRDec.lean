import Derived.Test.YtmlpijjjkpnioaaDoorCRDecM
import Derived.Test.YtmlpijjjkpnioaaDoorCDec
import Derived.Test.YtmlpijjjkpnioaaDoorCRCheck
import Derived.Test.YtmlpijjjkpnioaaDoorCOwe
import Derived.Test.YtmlpijjjkpnioaaDoorCRDecB
/-! The reference's Decode. -/
namespace Go.Proofs.YtmlpijjjkpnioaaDoor.C
open Go.RowKit
open Go.Proofs
open Go.Proofs.YtmlpijjjkpnioaaDoor.K
set_option linter.unusedVariables false
set_option linter.unusedSimpArgs false
set_option maxHeartbeats 4000000
set_option maxRecDepth 100000
theorem d70 {b : List UInt8} (h : b.take 5 ≠ magic) : decB b = (70, ct0) := by unfold decB; rw [if_pos h]
theorem d71 {b : List UInt8} (h : b.take 5 = magic) (h2 : sumOk b = false) : decB b = (71, ct0) := by unfold decB; rw [if_neg (fun g => g h), if_pos h2]
theorem d72 {b : List UInt8} (h : b.take 5 = magic) (h2 : sumOk b = true) (h3 : table (body b) (many b) = none) : decB b = (72, ct0) := by unfold decB; rw [if_neg (fun g => g h), if_neg (by rw [h2]; decide), h3]
theorem d73 {b : List UInt8} {l : List Sec} (h : b.take 5 = magic) (h2 : sumOk b = true) (h3 : table (body b) (many b) = some l) : decB b = if secsOk l then (0, cartOf (entryOf b) l) else (73, ct0) := by unfold decB; rw [if_neg (fun g => g h), if_neg (by rw [h2]; decide), h3]
theorem bs_take {w : World} {x : Addr} {l : List UInt8} (h : Bs w (some x) l) (n : Nat) : Bs w (some x) (l.take n) := by
  rcases h with rfl | ⟨y, e, h⟩
  · exact .inl (by simp)
  · refine .inr ⟨y, e, fun j b hj => h j b ?_⟩
    rw [List.getElem?_take] at hj
    split at hj
    · exact hj
    · cases hj
theorem bs_drop {w : World} {x : Addr} {l : List UInt8} (h : Bs w (some x) l) (n : Nat) : Bs w (some (x.add n)) (l.drop n) := by
  rcases h with rfl | ⟨y, e, h⟩
  · exact .inl (by simp)
  · cases e
    refine .inr ⟨_, rfl, fun j b hj => ?_⟩
    rw [List.getElem?_drop] at hj
    rw [Deep.add_add]
    exact h _ b hj
theorem bs_sl {w : World} {x : Addr} {l : List UInt8} {c : Nat} (h : Bs w (some x) l) (hc : l.length ≤ c) : Sl w (.slice (some x) l.length c) l := by
  refine .inr ⟨x, c, rfl, hc, fun j b hj => ?_⟩
  rcases h with rfl | ⟨y, e, h⟩
  · simp at hj
  · cases e; exact h j b hj
theorem bs_below {w w' : World} {x : Addr} {l : List UInt8} (h : Bs w (some x) l) (k : Below w.heap.size w w') : Bs w' (some x) l := by
  rcases h with rfl | ⟨y, e, h⟩
  · exact .inl rfl
  · exact .inr ⟨y, e, fun j b hj => below_cell k _ _ (h j b hj)⟩
/-- What is answered. -/
def DecR (w w' : World) (b : List UInt8) (e : Ending) : Prop := DecO w w' b e ∧ Below w.heap.size w w'
theorem dec_err' {w w' : World} {b : List UInt8} {k : Nat} (h : decB b = (k, ct0)) (hb : Below w.heap.size w w') : DecR w w' b (.returned (.tuple #[.agg #[.slice none 0 0, .int .u16 0, .slice none 0 0, .slice none 0 0], .int .i64 (k : Int)])) := by
  refine ⟨⟨_, by rw [h], ?_⟩, hb⟩
  rw [h]
  exact ⟨_, _, _, _, OwC.zero w' w.heap.size⟩
theorem t3_app : ∀ (a c : List V3), t3 (a ++ c) = t3 a ++ t3 c
  | [], c => rfl
  | x :: a, c => by show x.1 :: x.2.1 :: x.2.2 :: t3 (a ++ c) = _; rw [t3_app a c]; rfl
theorem add_z (x : Addr) : x.add 0 = x := by simp [Addr.add]
theorem sy_nil (w : World) : Sy w w (.slice none 0 0) [] := ⟨⟨rfl, .inl ⟨rfl, rfl⟩⟩, by simp, Below.refl _ _⟩
theorem body_cut (b : List UInt8) (t a s : Nat) (ht : t + 4 = b.length) (h : a + s ≤ t) : ((body b).drop a).take s = (b.drop a).take s ∧ ((b.drop a).take s).length = s := by
  refine ⟨?_, by rw [List.length_take, List.length_drop]; omega⟩
  unfold body
  rw [show b.length - 4 = t by omega, List.drop_take, List.take_take, Nat.min_eq_left (by omega)]
theorem row_len (b : List UInt8) (k : Nat) (h : 8 + 10 * k + 10 ≤ b.length) : (rowL b k).length = 10 := by unfold rowL; rw [List.length_take, List.length_drop]; omega
theorem row_k (r : List UInt8) (h : 2 ≤ r.length) : r[0]? = some (k_ r) ∧ r[1]? = some (n_ r) := by
  unfold k_ n_
  rw [List.getD_eq_getElem?_getD, List.getD_eq_getElem?_getD, List.getElem?_eq_getElem (show 0 < r.length by omega), List.getElem?_eq_getElem (show 1 < r.length by omega)]
  exact ⟨rfl, rfl⟩
theorem slice_b (x : Addr) (n cp lo hi : Nat) (zl zh : Int) (hzl : zl = (lo : Int)) (hzh : zh = (hi : Int)) (h1 : lo ≤ hi) (h2 : hi ≤ cp) (h3 : lo < cp) (s : Nat) (hs : lo + s = hi) (W : World) : (Instr.sliceAt 22 (.slice (some x) n cp) (some (.int .i64 zl)) (some (.int .i64 zh)) none).run Tryd.prog W = .ok (.slice (some (x.add lo)) s (cp - lo)) W := by
  have := slice_lh W (some x) n cp lo hi zl zh hzl hzh h1 h2
  rw [if_neg (by omega), show hi - lo = s by omega] at this
  exact this
theorem none_of {b : List UInt8} {m k : Nat} (hm : many b = m) (h1 : 2 ≤ m) (h2 : m ≤ 18) (hb : 8 + 10 * m + 4 ≤ b.length) (hk : k < m) (h : ¬ okr b m k) : table (body b) (many b) = none := by
  rw [hm, table_ref b m h1 h2 (by unfold body; rw [List.length_take]; omega), if_neg]
  exact fun g => h (g.1 k hk)
theorem row_below {w X : World} (h : Below w.heap.size w X) (cs : Array Value) : Below w.heap.size w (X.setRow w.heap.size cs) :=
  ⟨h.os, h.tape, h.output, by rw [size_setRow]; exact h.size, fun i hi => (setRow_other _ _ i _ (by omega)).trans (h.block i hi)⟩
theorem rdecode_any (v : Value) (b : List UInt8) (hl : b.length ≤ room) (w : World) (h : Sl w v b) :
    Calls Tryd.prog 20 #[v] w fun e w' => DecR w w' b e := by
  have hroom : room = 140737488355328 := rfl
  obtain ⟨p, cp, rfl, hbs⟩ := h.ex
  have hcp : b.length ≤ cp := by
    rcases h with ⟨h0, h1⟩ | ⟨x, cc, h0, h1, _⟩
    · rw [h1]; simp
    · cases h0; exact h1
  obtain ⟨W1, hW1⟩ : ∃ W1, w.alloc (.cells #[.slice none 0 0, .int .u16 0, .slice none 0 0, .slice none 0 0] 27) = W1 := ⟨_, rfl⟩
  have k1 : Below w.heap.size w W1 := by rw [← hW1]; exact (Below.refl _ _).alloc (Nat.le_refl _) _
  have v1 : W1.heap[w.heap.size]? = some (.cells #[.slice none 0 0, .int .u16 0, .slice none 0 0, .slice none 0 0] 27 (0, 0)) := by rw [← hW1]; exact heap_alloc_new w _
  have HW := hid hW1
  have HB := hid k1
  have HZ := hid v1
  clear hW1 k1 v1 h
  by_cases h5 : b.length < 5
  · have i5 : (b.length : Int) < 5 := by omega
    have hm : b.take 5 ≠ magic := fun e => by have := congrArg List.length e; rw [List.length_take] at this; simp [magic] at this; omega
    go_enter Tryd.func20, Tryd.ntmps20
    go_upto_region 2 with fail
    rw [HW.out]
    have z1 := HZ.out
    go_wp2_with (refine wpList_store_row rfl 27 _ _ rfl w.heap.size #[.slice none 0 0, .int .u16 0, .slice none 0 0, .slice none 0 0] rfl rfl 27 #[.slice none 0 0, .int .u16 0, .slice none 0 0, .slice none 0 0] z1 (by kernel_rfl) (by rfl) (by simp [Value.oneCell']) ?_)
    have hg := setRow_heap _ w.heap.size _ #[.slice none 0 0, .int .u16 0, .slice none 0 0, .slice none 0 0] _ _ z1
    have hbf := row_below HB.out #[.slice none 0 0, .int .u16 0, .slice none 0 0, .slice none 0 0]
    generalize World.setRow _ w.heap.size #[.slice none 0 0, .int .u16 0, .slice none 0 0, .slice none 0 0] = z6 at *
    have r0 := cell_of z6 w.heap.size 0 [.slice none 0 0, .int .u16 0, .slice none 0 0, .slice none 0 0] 27 _ hg rfl
    have r1 := cell_of z6 w.heap.size 1 [.slice none 0 0, .int .u16 0, .slice none 0 0, .slice none 0 0] 27 _ hg rfl
    have r2 := cell_of z6 w.heap.size 2 [.slice none 0 0, .int .u16 0, .slice none 0 0, .slice none 0 0] 27 _ hg rfl
    have r3 := cell_of z6 w.heap.size 3 [.slice none 0 0, .int .u16 0, .slice none 0 0, .slice none 0 0] 27 _ hg rfl
    exact bodyPost_ret (v := .tuple #[.agg #[.slice none 0 0, .int .u16 0, .slice none 0 0, .slice none 0 0], .int .i64 70]) (by simp [results, Tryd.results20, go_sem, r0, r1, r2, r3]) rfl (dec_err' (k := 70) (d70 hm) hbf)
  · have i5 : ¬ (b.length : Int) < 5 := by omega
    obtain ⟨x, rfl⟩ : ∃ x, p = some x := by
      rcases hbs with rfl | ⟨x, e, _⟩
      · simp at h5
      · exact ⟨x, e⟩
    have hbW := bs_below hbs HB.out
    have hs5 : Sl W1 (.slice (some x) 5 cp) (b.take 5) := by
      have := bs_sl (c := cp) (bs_take hbW 5) (by rw [List.length_take]; omega)
      rwa [List.length_take, Nat.min_eq_left (by omega)] at this
    have cv5 := hs5.conv (by rw [List.length_take]; unfold maxLen; omega)
    have hc5 : (5 : Int) ≤ (cp : Int) := by omega
    have hc5' : 5 ≤ cp := by omega
    by_cases hm : b.take 5 = magic
    · rw [hm] at cv5
      have cv6 : (convert 22 9 (.slice (some x) 5 cp)).run Tryd.prog W1 = .ok (.string ⟨#[87, 73, 83, 80, 1]⟩) W1 := cv5
      have HBS := hid (And.intro hbW hm)
      obtain ⟨t, ht⟩ : ∃ t, t + 4 = b.length := ⟨b.length - 4, by omega⟩
      have w4 : IntKind.i64.wrap ((b.length : Int) - 4) = (t : Int) := by rw [show (b.length : Int) - 4 = (t : Int) by omega]; exact IntWalk.i64_in _ (by omega)
      clear hs5 hbs hbW hm cv5
      go_enter Tryd.func20, Tryd.ntmps20
      go_upto_region 1 with fail
      rw [HW.out]
      go_upto_region 4 with fail
      clear cv6
      have HBd := hid (HB.out.drew)
      have HZd := hid (show W1.drew.heap[w.heap.size]? = _ from HZ.out)
      by_cases h12 : b.length < 12
      · have i12 : decide ((b.length : Int) < 12) = true := decide_eq_true (by omega)
        have hso : sumOk b = false := by simp [sumOk]; omega
        refine wp_region_held_drew (S := (fun _ : World => True)) (by kernel_rfl) trivial (fun hHeld => ?_)
        generalize W1.drew = y0 at *
        refine wpAnyH_take (i := 0) (v := ?_) rfl (by kernel_rfl) (by kernel_rfl) (by kernel_rfl) (fun c a w h => h) (Or.inl ⟨by rfl, ?_⟩) hHeld ?_
        rotate_left
        · (intro w hSw; (try dsimp only at hSw); go_simp; try with_reducible rfl)
        simp only [Act.put, List.getElem_toArray, List.getElem_cons_zero, List.getElem_cons_succ, List.setIfInBounds_toArray, List.set_cons_zero, List.set_cons_succ]
        refine wpAnyH_take (i := 1) (v := ?_) rfl (by kernel_rfl) (by kernel_rfl) (by kernel_rfl) (fun c a w h => h) (Or.inl ⟨by rfl, ?_⟩) hHeld ?_
        rotate_left
        · (intro w hSw; (try dsimp only at hSw); go_simp; try with_reducible rfl)
        simp only [Act.put, List.getElem_toArray, List.getElem_cons_zero, List.getElem_cons_succ, List.setIfInBounds_toArray, List.set_cons_zero, List.set_cons_succ]
        refine wpAnyH_take (i := 2) (v := ?_) rfl (by kernel_rfl) (by kernel_rfl) (by kernel_rfl) (fun c a w h => h) (Or.inl ⟨by rfl, ?_⟩) hHeld ?_
        rotate_left
        · (intro w hSw; (try dsimp only at hSw); go_simp; try with_reducible rfl)
        simp only [Act.put, List.getElem_toArray, List.getElem_cons_zero, List.getElem_cons_succ, List.setIfInBounds_toArray, List.set_cons_zero, List.set_cons_succ]
        refine wpAnyH_take (i := 3) (v := ?_) rfl (by kernel_rfl) (by kernel_rfl) (by kernel_rfl) (fun c a w h => h) (Or.inl ⟨by rfl, ?_⟩) hHeld ?_
        rotate_left
        · (intro w hSw; (try dsimp only at hSw); go_simp; try with_reducible rfl)
        simp only [Act.put, List.getElem_toArray, List.getElem_cons_zero, List.getElem_cons_succ, List.setIfInBounds_toArray, List.set_cons_zero, List.set_cons_succ]
        refine wpAnyH_take (i := 4) (v := undef) rfl (by kernel_rfl) (by kernel_rfl) (by kernel_rfl) (fun c a w h => h) (Or.inr ⟨by rfl, rfl⟩) hHeld ?_
        try simp only [Act.put, List.getElem_toArray, List.getElem_cons_zero, List.getElem_cons_succ, List.setIfInBounds_toArray, List.set_cons_zero, List.set_cons_succ]
        refine wpAnyH_take (i := 5) (v := undef) rfl (by kernel_rfl) (by kernel_rfl) (by kernel_rfl) (fun c a w h => h) (Or.inr ⟨by rfl, rfl⟩) hHeld ?_
        try simp only [Act.put, List.getElem_toArray, List.getElem_cons_zero, List.getElem_cons_succ, List.setIfInBounds_toArray, List.set_cons_zero, List.set_cons_succ]
        refine wpAnyH_take (i := 6) (v := undef) rfl (by kernel_rfl) (by kernel_rfl) (by kernel_rfl) (fun c a w h => h) (Or.inr ⟨by rfl, rfl⟩) hHeld ?_
        try simp only [Act.put, List.getElem_toArray, List.getElem_cons_zero, List.getElem_cons_succ, List.setIfInBounds_toArray, List.set_cons_zero, List.set_cons_succ]
        refine wpAnyH_take (i := 7) (v := ?_) rfl (by kernel_rfl) (by kernel_rfl) (by kernel_rfl) (fun c a w h => h) (Or.inl ⟨by rfl, ?_⟩) hHeld ?_
        rotate_left
        · (intro w hSw; (try dsimp only at hSw); go_simp; try with_reducible rfl)
        simp only [Act.put, List.getElem_toArray, List.getElem_cons_zero, List.getElem_cons_succ, List.setIfInBounds_toArray, List.set_cons_zero, List.set_cons_succ]
        refine wpAnyH_take (i := 8) (v := ?_) rfl (by kernel_rfl) (by kernel_rfl) (by kernel_rfl) (fun c a w h => h) (Or.inl ⟨by rfl, ?_⟩) hHeld ?_
        rotate_left
        · (intro w hSw; (try dsimp only at hSw); go_simp; try with_reducible rfl)
        simp only [Act.put, List.getElem_toArray, List.getElem_cons_zero, List.getElem_cons_succ, List.setIfInBounds_toArray, List.set_cons_zero, List.set_cons_succ]
        refine wpAnyH_take (i := 9) (v := undef) rfl (by kernel_rfl) (by kernel_rfl) (by kernel_rfl) (fun c a w h => h) (Or.inr ⟨by rfl, rfl⟩) hHeld ?_
        try simp only [Act.put, List.getElem_toArray, List.getElem_cons_zero, List.getElem_cons_succ, List.setIfInBounds_toArray, List.set_cons_zero, List.set_cons_succ]
        refine wpAnyH_take (i := 10) (v := undef) rfl (by kernel_rfl) (by kernel_rfl) (by kernel_rfl) (fun c a w h => h) (Or.inr ⟨by rfl, rfl⟩) hHeld ?_
        try simp only [Act.put, List.getElem_toArray, List.getElem_cons_zero, List.getElem_cons_succ, List.setIfInBounds_toArray, List.set_cons_zero, List.set_cons_succ]
        refine wpAnyH_take (i := 11) (v := undef) rfl (by kernel_rfl) (by kernel_rfl) (by kernel_rfl) (fun c a w h => h) (Or.inr ⟨by rfl, rfl⟩) hHeld ?_
        try simp only [Act.put, List.getElem_toArray, List.getElem_cons_zero, List.getElem_cons_succ, List.setIfInBounds_toArray, List.set_cons_zero, List.set_cons_succ]
        refine wpAnyH_take (i := 12) (v := undef) rfl (by kernel_rfl) (by kernel_rfl) (by kernel_rfl) (fun c a w h => h) (Or.inr ⟨by rfl, rfl⟩) hHeld ?_
        try simp only [Act.put, List.getElem_toArray, List.getElem_cons_zero, List.getElem_cons_succ, List.setIfInBounds_toArray, List.set_cons_zero, List.set_cons_succ]
        refine wpAnyH_take (i := 13) (v := undef) rfl (by kernel_rfl) (by kernel_rfl) (by kernel_rfl) (fun c a w h => h) (Or.inr ⟨by rfl, rfl⟩) hHeld ?_
        try simp only [Act.put, List.getElem_toArray, List.getElem_cons_zero, List.getElem_cons_succ, List.setIfInBounds_toArray, List.set_cons_zero, List.set_cons_succ]
        refine wpAnyH_take (i := 14) (v := undef) rfl (by kernel_rfl) (by kernel_rfl) (by kernel_rfl) (fun c a w h => h) (Or.inr ⟨by rfl, rfl⟩) hHeld ?_
        try simp only [Act.put, List.getElem_toArray, List.getElem_cons_zero, List.getElem_cons_succ, List.setIfInBounds_toArray, List.set_cons_zero, List.set_cons_succ]
        refine wpAnyH_take (i := 15) (v := undef) rfl (by kernel_rfl) (by kernel_rfl) (by kernel_rfl) (fun c a w h => h) (Or.inr ⟨by rfl, rfl⟩) hHeld ?_
        try simp only [Act.put, List.getElem_toArray, List.getElem_cons_zero, List.getElem_cons_succ, List.setIfInBounds_toArray, List.set_cons_zero, List.set_cons_succ]
        refine wpAnyH_take (i := 16) (v := undef) rfl (by kernel_rfl) (by kernel_rfl) (by kernel_rfl) (fun c a w h => h) (Or.inr ⟨by rfl, rfl⟩) hHeld ?_
        try simp only [Act.put, List.getElem_toArray, List.getElem_cons_zero, List.getElem_cons_succ, List.setIfInBounds_toArray, List.set_cons_zero, List.set_cons_succ]
        refine wpAnyH_take (i := 17) (v := undef) rfl (by kernel_rfl) (by kernel_rfl) (by kernel_rfl) (fun c a w h => h) (Or.inr ⟨by rfl, rfl⟩) hHeld ?_
        try simp only [Act.put, List.getElem_toArray, List.getElem_cons_zero, List.getElem_cons_succ, List.setIfInBounds_toArray, List.set_cons_zero, List.set_cons_succ]
        refine wpAnyH_take (i := 18) (v := undef) rfl (by kernel_rfl) (by kernel_rfl) (by kernel_rfl) (fun c a w h => h) (Or.inr ⟨by rfl, rfl⟩) hHeld ?_
        try simp only [Act.put, List.getElem_toArray, List.getElem_cons_zero, List.getElem_cons_succ, List.setIfInBounds_toArray, List.set_cons_zero, List.set_cons_succ]
        refine wpAnyH_take (i := 19) (v := undef) rfl (by kernel_rfl) (by kernel_rfl) (by kernel_rfl) (fun c a w h => h) (Or.inr ⟨by rfl, rfl⟩) hHeld ?_
        try simp only [Act.put, List.getElem_toArray, List.getElem_cons_zero, List.getElem_cons_succ, List.setIfInBounds_toArray, List.set_cons_zero, List.set_cons_succ]
        refine wpAnyH_take (i := 20) (v := ?_) rfl (by kernel_rfl) (by kernel_rfl) (by kernel_rfl) (fun c a w h => h) (Or.inl ⟨by rfl, ?_⟩) hHeld ?_
        rotate_left
        · (intro w hSw; (try dsimp only at hSw); go_simp; try with_reducible rfl)
        simp only [Act.put, List.getElem_toArray, List.getElem_cons_zero, List.getElem_cons_succ, List.setIfInBounds_toArray, List.set_cons_zero, List.set_cons_succ]
        refine wpAnyH_done (by kernel_rfl) ?_ _
        clear hHeld
        go_upto_region 5 with fail
        have z1 := HZd.out
        go_wp2_with (refine wpList_store_row rfl 27 _ _ rfl w.heap.size #[.slice none 0 0, .int .u16 0, .slice none 0 0, .slice none 0 0] rfl rfl 27 #[.slice none 0 0, .int .u16 0, .slice none 0 0, .slice none 0 0] z1 (by kernel_rfl) (by rfl) (by simp [Value.oneCell']) ?_)
        have hg := setRow_heap _ w.heap.size _ #[.slice none 0 0, .int .u16 0, .slice none 0 0, .slice none 0 0] _ _ z1
        have hbf := row_below HBd.out #[.slice none 0 0, .int .u16 0, .slice none 0 0, .slice none 0 0]
        generalize World.setRow _ w.heap.size #[.slice none 0 0, .int .u16 0, .slice none 0 0, .slice none 0 0] = z6 at *
        have r0 := cell_of z6 w.heap.size 0 [.slice none 0 0, .int .u16 0, .slice none 0 0, .slice none 0 0] 27 _ hg rfl
        have r1 := cell_of z6 w.heap.size 1 [.slice none 0 0, .int .u16 0, .slice none 0 0, .slice none 0 0] 27 _ hg rfl
        have r2 := cell_of z6 w.heap.size 2 [.slice none 0 0, .int .u16 0, .slice none 0 0, .slice none 0 0] 27 _ hg rfl
        have r3 := cell_of z6 w.heap.size 3 [.slice none 0 0, .int .u16 0, .slice none 0 0, .slice none 0 0] 27 _ hg rfl
        exact bodyPost_ret (v := .tuple #[.agg #[.slice none 0 0, .int .u16 0, .slice none 0 0, .slice none 0 0], .int .i64 71]) (by simp [results, Tryd.results20, go_sem, r0, r1, r2, r3]) rfl (dec_err' (k := 71) (d71 HBS.out.2 hso) hbf)
      have i12 : decide ((b.length : Int) < 12) = false := decide_eq_false (by omega)
      by_cases hbig : 524288 < b.length
      · have ibg : decide ((524288 : Int) < (b.length : Int)) = true := decide_eq_true (by omega)
        have hso : sumOk b = false := by simp [sumOk]; omega
        refine wp_region_held_drew (S := (fun _ : World => True)) (by kernel_rfl) trivial (fun hHeld => ?_)
        generalize W1.drew = y0 at *
        refine wpAnyH_take (i := 0) (v := ?_) rfl (by kernel_rfl) (by kernel_rfl) (by kernel_rfl) (fun c a w h => h) (Or.inl ⟨by rfl, ?_⟩) hHeld ?_
        rotate_left
        · (intro w hSw; (try dsimp only at hSw); go_simp; try with_reducible rfl)
        simp only [Act.put, List.getElem_toArray, List.getElem_cons_zero, List.getElem_cons_succ, List.setIfInBounds_toArray, List.set_cons_zero, List.set_cons_succ]
        refine wpAnyH_take (i := 1) (v := ?_) rfl (by kernel_rfl) (by kernel_rfl) (by kernel_rfl) (fun c a w h => h) (Or.inl ⟨by rfl, ?_⟩) hHeld ?_
        rotate_left
        · (intro w hSw; (try dsimp only at hSw); go_simp; try with_reducible rfl)
        simp only [Act.put, List.getElem_toArray, List.getElem_cons_zero, List.getElem_cons_succ, List.setIfInBounds_toArray, List.set_cons_zero, List.set_cons_succ]
        refine wpAnyH_take (i := 2) (v := ?_) rfl (by kernel_rfl) (by kernel_rfl) (by kernel_rfl) (fun c a w h => h) (Or.inl ⟨by rfl, ?_⟩) hHeld ?_
        rotate_left
        · (intro w hSw; (try dsimp only at hSw); go_simp; try with_reducible rfl)
        simp only [Act.put, List.getElem_toArray, List.getElem_cons_zero, List.getElem_cons_succ, List.setIfInBounds_toArray, List.set_cons_zero, List.set_cons_succ]
        refine wpAnyH_take (i := 3) (v := ?_) rfl (by kernel_rfl) (by kernel_rfl) (by kernel_rfl) (fun c a w h => h) (Or.inl ⟨by rfl, ?_⟩) hHeld ?_
        rotate_left
        · (intro w hSw; (try dsimp only at hSw); go_simp; try with_reducible rfl)
        simp only [Act.put, List.getElem_toArray, List.getElem_cons_zero, List.getElem_cons_succ, List.setIfInBounds_toArray, List.set_cons_zero, List.set_cons_succ]
        refine wpAnyH_take (i := 4) (v := ?_) rfl (by kernel_rfl) (by kernel_rfl) (by kernel_rfl) (fun c a w h => h) (Or.inl ⟨by rfl, ?_⟩) hHeld ?_
        rotate_left
        · (intro w hSw; (try dsimp only at hSw); go_simp; try with_reducible rfl)
        simp only [Act.put, List.getElem_toArray, List.getElem_cons_zero, List.getElem_cons_succ, List.setIfInBounds_toArray, List.set_cons_zero, List.set_cons_succ]
        refine wpAnyH_take (i := 5) (v := ?_) rfl (by kernel_rfl) (by kernel_rfl) (by kernel_rfl) (fun c a w h => h) (Or.inl ⟨by rfl, ?_⟩) hHeld ?_
        rotate_left
        · (intro w hSw; (try dsimp only at hSw); go_simp; try with_reducible rfl)
        simp only [Act.put, List.getElem_toArray, List.getElem_cons_zero, List.getElem_cons_succ, List.setIfInBounds_toArray, List.set_cons_zero, List.set_cons_succ]
        refine wpAnyH_take (i := 6) (v := ?_) rfl (by kernel_rfl) (by kernel_rfl) (by kernel_rfl) (fun c a w h => h) (Or.inl ⟨by rfl, ?_⟩) hHeld ?_
        rotate_left
        · (intro w hSw; (try dsimp only at hSw); go_simp; try with_reducible rfl)
        simp only [Act.put, List.getElem_toArray, List.getElem_cons_zero, List.getElem_cons_succ, List.setIfInBounds_toArray, List.set_cons_zero, List.set_cons_succ]
        refine wpAnyH_take (i := 7) (v := ?_) rfl (by kernel_rfl) (by kernel_rfl) (by kernel_rfl) (fun c a w h => h) (Or.inl ⟨by rfl, ?_⟩) hHeld ?_
        rotate_left
        · (intro w hSw; (try dsimp only at hSw); go_simp; try with_reducible rfl)
        simp only [Act.put, List.getElem_toArray, List.getElem_cons_zero, List.getElem_cons_succ, List.setIfInBounds_toArray, List.set_cons_zero, List.set_cons_succ]
        refine wpAnyH_take (i := 8) (v := ?_) rfl (by kernel_rfl) (by kernel_rfl) (by kernel_rfl) (fun c a w h => h) (Or.inl ⟨by rfl, ?_⟩) hHeld ?_
        rotate_left
        · (intro w hSw; (try dsimp only at hSw); go_simp; try with_reducible rfl)
        simp only [Act.put, List.getElem_toArray, List.getElem_cons_zero, List.getElem_cons_succ, List.setIfInBounds_toArray, List.set_cons_zero, List.set_cons_succ]
        refine wpAnyH_take (i := 9) (v := undef) rfl (by kernel_rfl) (by kernel_rfl) (by kernel_rfl) (fun c a w h => h) (Or.inr ⟨by rfl, rfl⟩) hHeld ?_
        try simp only [Act.put, List.getElem_toArray, List.getElem_cons_zero, List.getElem_cons_succ, List.setIfInBounds_toArray, List.set_cons_zero, List.set_cons_succ]
        refine wpAnyH_take (i := 10) (v := undef) rfl (by kernel_rfl) (by kernel_rfl) (by kernel_rfl) (fun c a w h => h) (Or.inr ⟨by rfl, rfl⟩) hHeld ?_
        try simp only [Act.put, List.getElem_toArray, List.getElem_cons_zero, List.getElem_cons_succ, List.setIfInBounds_toArray, List.set_cons_zero, List.set_cons_succ]
        refine wpAnyH_take (i := 11) (v := undef) rfl (by kernel_rfl) (by kernel_rfl) (by kernel_rfl) (fun c a w h => h) (Or.inr ⟨by rfl, rfl⟩) hHeld ?_
        try simp only [Act.put, List.getElem_toArray, List.getElem_cons_zero, List.getElem_cons_succ, List.setIfInBounds_toArray, List.set_cons_zero, List.set_cons_succ]
        refine wpAnyH_take (i := 12) (v := undef) rfl (by kernel_rfl) (by kernel_rfl) (by kernel_rfl) (fun c a w h => h) (Or.inr ⟨by rfl, rfl⟩) hHeld ?_
        try simp only [Act.put, List.getElem_toArray, List.getElem_cons_zero, List.getElem_cons_succ, List.setIfInBounds_toArray, List.set_cons_zero, List.set_cons_succ]
        refine wpAnyH_take (i := 13) (v := undef) rfl (by kernel_rfl) (by kernel_rfl) (by kernel_rfl) (fun c a w h => h) (Or.inr ⟨by rfl, rfl⟩) hHeld ?_
        try simp only [Act.put, List.getElem_toArray, List.getElem_cons_zero, List.getElem_cons_succ, List.setIfInBounds_toArray, List.set_cons_zero, List.set_cons_succ]
        refine wpAnyH_take (i := 14) (v := undef) rfl (by kernel_rfl) (by kernel_rfl) (by kernel_rfl) (fun c a w h => h) (Or.inr ⟨by rfl, rfl⟩) hHeld ?_
        try simp only [Act.put, List.getElem_toArray, List.getElem_cons_zero, List.getElem_cons_succ, List.setIfInBounds_toArray, List.set_cons_zero, List.set_cons_succ]
        refine wpAnyH_take (i := 15) (v := undef) rfl (by kernel_rfl) (by kernel_rfl) (by kernel_rfl) (fun c a w h => h) (Or.inr ⟨by rfl, rfl⟩) hHeld ?_
        try simp only [Act.put, List.getElem_toArray, List.getElem_cons_zero, List.getElem_cons_succ, List.setIfInBounds_toArray, List.set_cons_zero, List.set_cons_succ]
        refine wpAnyH_take (i := 16) (v := undef) rfl (by kernel_rfl) (by kernel_rfl) (by kernel_rfl) (fun c a w h => h) (Or.inr ⟨by rfl, rfl⟩) hHeld ?_
        try simp only [Act.put, List.getElem_toArray, List.getElem_cons_zero, List.getElem_cons_succ, List.setIfInBounds_toArray, List.set_cons_zero, List.set_cons_succ]
        refine wpAnyH_take (i := 17) (v := undef) rfl (by kernel_rfl) (by kernel_rfl) (by kernel_rfl) (fun c a w h => h) (Or.inr ⟨by rfl, rfl⟩) hHeld ?_
        try simp only [Act.put, List.getElem_toArray, List.getElem_cons_zero, List.getElem_cons_succ, List.setIfInBounds_toArray, List.set_cons_zero, List.set_cons_succ]
        refine wpAnyH_take (i := 18) (v := undef) rfl (by kernel_rfl) (by kernel_rfl) (by kernel_rfl) (fun c a w h => h) (Or.inr ⟨by rfl, rfl⟩) hHeld ?_
        try simp only [Act.put, List.getElem_toArray, List.getElem_cons_zero, List.getElem_cons_succ, List.setIfInBounds_toArray, List.set_cons_zero, List.set_cons_succ]
        refine wpAnyH_take (i := 19) (v := undef) rfl (by kernel_rfl) (by kernel_rfl) (by kernel_rfl) (fun c a w h => h) (Or.inr ⟨by rfl, rfl⟩) hHeld ?_
        try simp only [Act.put, List.getElem_toArray, List.getElem_cons_zero, List.getElem_cons_succ, List.setIfInBounds_toArray, List.set_cons_zero, List.set_cons_succ]
        refine wpAnyH_take (i := 20) (v := ?_) rfl (by kernel_rfl) (by kernel_rfl) (by kernel_rfl) (fun c a w h => h) (Or.inl ⟨by rfl, ?_⟩) hHeld ?_
        rotate_left
        · (intro w hSw; (try dsimp only at hSw); go_simp; try with_reducible rfl)
        simp only [Act.put, List.getElem_toArray, List.getElem_cons_zero, List.getElem_cons_succ, List.setIfInBounds_toArray, List.set_cons_zero, List.set_cons_succ]
        refine wpAnyH_done (by kernel_rfl) ?_ _
        clear hHeld
        go_upto_region 5 with fail
        have z1 := HZd.out
        go_wp2_with (refine wpList_store_row rfl 27 _ _ rfl w.heap.size #[.slice none 0 0, .int .u16 0, .slice none 0 0, .slice none 0 0] rfl rfl 27 #[.slice none 0 0, .int .u16 0, .slice none 0 0, .slice none 0 0] z1 (by kernel_rfl) (by rfl) (by simp [Value.oneCell']) ?_)
        have hg := setRow_heap _ w.heap.size _ #[.slice none 0 0, .int .u16 0, .slice none 0 0, .slice none 0 0] _ _ z1
        have hbf := row_below HBd.out #[.slice none 0 0, .int .u16 0, .slice none 0 0, .slice none 0 0]
        generalize World.setRow _ w.heap.size #[.slice none 0 0, .int .u16 0, .slice none 0 0, .slice none 0 0] = z6 at *
        have r0 := cell_of z6 w.heap.size 0 [.slice none 0 0, .int .u16 0, .slice none 0 0, .slice none 0 0] 27 _ hg rfl
        have r1 := cell_of z6 w.heap.size 1 [.slice none 0 0, .int .u16 0, .slice none 0 0, .slice none 0 0] 27 _ hg rfl
        have r2 := cell_of z6 w.heap.size 2 [.slice none 0 0, .int .u16 0, .slice none 0 0, .slice none 0 0] 27 _ hg rfl
        have r3 := cell_of z6 w.heap.size 3 [.slice none 0 0, .int .u16 0, .slice none 0 0, .slice none 0 0] 27 _ hg rfl
        exact bodyPost_ret (v := .tuple #[.agg #[.slice none 0 0, .int .u16 0, .slice none 0 0, .slice none 0 0], .int .i64 71]) (by simp [results, Tryd.results20, go_sem, r0, r1, r2, r3]) rfl (dec_err' (k := 71) (d71 HBS.out.2 hso) hbf)
      have ibg : decide ((524288 : Int) < (b.length : Int)) = false := decide_eq_false (by omega)
      have hbd := bs_below HBS.out.1 ((Below.refl W1.heap.size W1).drew)
      have htl : (b.take t).length = t := by rw [List.length_take]; omega
      have hdl : (b.drop t).length = 4 := by rw [List.length_drop]; omega
      have kT := rsum_any (some x) cp (b.take t) (by rw [htl]; unfold maxLen; omega) W1.drew (bs_take hbd t)
      have kD := rlow_any (some (x.add t)) (cp - t) (b.drop t) (by omega) W1.drew (bs_drop hbd t)
      rw [htl] at kT
      rw [hdl] at kD
      have sT := fun W => slice_to W (some x) b.length cp t (t : Int) rfl (by omega)
      have sD := fun W => slice_from W (some x) b.length cp t (t : Int) rfl (by omega)
      rw [if_neg (by omega), show b.length - t = 4 by omega] at sD
      have sD' : ∀ W, (Instr.sliceAt 22 (.slice (some x) b.length cp) (some (.int .i64 (t : Int))) none none).run Tryd.prog W = .ok (.slice (some (x.add t)) 4 (cp - t)) W := sD
      have hnl := numL_lt (b.drop t)
      rw [hdl] at hnl
      have hcl := crc_lt64 (b.take t)
      have hok : sumOk b = decide (numL (b.drop t) = crc (b.take t)) := by
        unfold sumOk
        rw [show b.length - 4 = t by omega]
        have a1 : 12 ≤ b.length := by omega
        have a2 : b.length ≤ 524288 := by omega
        simp [a1, a2]
      clear sD
      obtain ⟨cT, hcT⟩ : ∃ cT, crc (b.take t) = cT := ⟨_, rfl⟩
      obtain ⟨nD, hnD⟩ : ∃ nD, numL (b.drop t) = nD := ⟨_, rfl⟩
      rw [hcT] at kT hok hcl
      rw [hnD] at kD hok hnl
      have u1 : (cT : Int) % 18446744073709551616 = (cT : Int) := by omega
      have u2 : (nD : Int) % 18446744073709551616 = (nD : Int) := by omega
      have u3 : IntKind.u64.wrap (cT : Int) = (cT : Int) := by simp [IntKind.wrap, IntKind.bits, IntKind.signed]; omega
      have u4 : IntKind.u64.wrap (nD : Int) = (nD : Int) := by simp [IntKind.wrap, IntKind.bits, IntKind.signed]; omega
      have it1 : (0 : Int) ≤ (t : Int) := by omega
      have it2 : (t : Int) ≤ (cp : Int) := by omega
      have it3 : (t : Int) ≤ (b.length : Int) := by omega
      have HSo := hid hok
      clear hok hcT hnD hbd htl hdl
      by_cases hq : nD = cT
      case neg =>
        have d1 : ((cT : Int) != (nD : Int)) = true := by simp; omega
        have d2 : ¬ (cT : Int) = (nD : Int) := by omega
        have hso : sumOk b = false := by rw [HSo.out]; exact decide_eq_false hq
        refine wp_region_held_drew (S := (fun _ : World => True)) (by kernel_rfl) trivial (fun hHeld => ?_)
        generalize W1.drew = y0 at *
        refine wpAnyH_take (i := 0) (v := ?_) rfl (by kernel_rfl) (by kernel_rfl) (by kernel_rfl) (fun c a w h => h) (Or.inl ⟨by rfl, ?_⟩) hHeld ?_
        rotate_left
        · (intro w hSw; (try dsimp only at hSw); go_simp; try with_reducible rfl)
        simp only [Act.put, List.getElem_toArray, List.getElem_cons_zero, List.getElem_cons_succ, List.setIfInBounds_toArray, List.set_cons_zero, List.set_cons_succ]
        refine wpAnyH_take (i := 1) (v := ?_) rfl (by kernel_rfl) (by kernel_rfl) (by kernel_rfl) (fun c a w h => h) (Or.inl ⟨by rfl, ?_⟩) hHeld ?_
        rotate_left
        · (intro w hSw; (try dsimp only at hSw); go_simp; try with_reducible rfl)
        simp only [Act.put, List.getElem_toArray, List.getElem_cons_zero, List.getElem_cons_succ, List.setIfInBounds_toArray, List.set_cons_zero, List.set_cons_succ]
        refine wpAnyH_take (i := 2) (v := ?_) rfl (by kernel_rfl) (by kernel_rfl) (by kernel_rfl) (fun c a w h => h) (Or.inl ⟨by rfl, ?_⟩) hHeld ?_
        rotate_left
        · (intro w hSw; (try dsimp only at hSw); go_simp; try with_reducible rfl)
        simp only [Act.put, List.getElem_toArray, List.getElem_cons_zero, List.getElem_cons_succ, List.setIfInBounds_toArray, List.set_cons_zero, List.set_cons_succ]
        refine wpAnyH_take (i := 3) (v := ?_) rfl (by kernel_rfl) (by kernel_rfl) (by kernel_rfl) (fun c a w h => h) (Or.inl ⟨by rfl, ?_⟩) hHeld ?_
        rotate_left
        · (intro w hSw; (try dsimp only at hSw); go_simp; try with_reducible rfl)
        simp only [Act.put, List.getElem_toArray, List.getElem_cons_zero, List.getElem_cons_succ, List.setIfInBounds_toArray, List.set_cons_zero, List.set_cons_succ]
        refine wpAnyH_take (i := 4) (v := ?_) rfl (by kernel_rfl) (by kernel_rfl) (by kernel_rfl) (fun c a w h => h) (Or.inl ⟨by rfl, ?_⟩) hHeld ?_
        rotate_left
        · (intro w hSw; (try dsimp only at hSw); go_simp; try with_reducible rfl)
        simp only [Act.put, List.getElem_toArray, List.getElem_cons_zero, List.getElem_cons_succ, List.setIfInBounds_toArray, List.set_cons_zero, List.set_cons_succ]
        refine wpAnyH_take (i := 5) (v := ?_) rfl (by kernel_rfl) (by kernel_rfl) (by kernel_rfl) (fun c a w h => h) (Or.inl ⟨by rfl, ?_⟩) hHeld ?_
        rotate_left
        · (intro w hSw; (try dsimp only at hSw); go_simp; try with_reducible rfl)
        simp only [Act.put, List.getElem_toArray, List.getElem_cons_zero, List.getElem_cons_succ, List.setIfInBounds_toArray, List.set_cons_zero, List.set_cons_succ]
        refine wpAnyH_take (i := 6) (v := ?_) rfl (by kernel_rfl) (by kernel_rfl) (by kernel_rfl) (fun c a w h => h) (Or.inl ⟨by rfl, ?_⟩) hHeld ?_
        rotate_left
        · (intro w hSw; (try dsimp only at hSw); go_simp; try with_reducible rfl)
        simp only [Act.put, List.getElem_toArray, List.getElem_cons_zero, List.getElem_cons_succ, List.setIfInBounds_toArray, List.set_cons_zero, List.set_cons_succ]
        refine wpAnyH_take (i := 7) (v := ?_) rfl (by kernel_rfl) (by kernel_rfl) (by kernel_rfl) (fun c a w h => h) (Or.inl ⟨by rfl, ?_⟩) hHeld ?_
        rotate_left
        · (intro w hSw; (try dsimp only at hSw); go_simp; try with_reducible rfl)
        simp only [Act.put, List.getElem_toArray, List.getElem_cons_zero, List.getElem_cons_succ, List.setIfInBounds_toArray, List.set_cons_zero, List.set_cons_succ]
        refine wpAnyH_take (i := 8) (v := ?_) rfl (by kernel_rfl) (by kernel_rfl) (by kernel_rfl) (fun c a w h => h) (Or.inl ⟨by rfl, ?_⟩) hHeld ?_
        rotate_left
        · (intro w hSw; (try dsimp only at hSw); go_simp; try with_reducible rfl)
        simp only [Act.put, List.getElem_toArray, List.getElem_cons_zero, List.getElem_cons_succ, List.setIfInBounds_toArray, List.set_cons_zero, List.set_cons_succ]
        refine wpAnyH_take (i := 9) (v := ?_) rfl (by kernel_rfl) (by kernel_rfl) (by kernel_rfl) (fun c a w h => h) (Or.inl ⟨by rfl, ?_⟩) hHeld ?_
        rotate_left
        · (intro w hSw; (try dsimp only at hSw); go_simp; try with_reducible rfl)
        simp only [Act.put, List.getElem_toArray, List.getElem_cons_zero, List.getElem_cons_succ, List.setIfInBounds_toArray, List.set_cons_zero, List.set_cons_succ]
        refine wpAnyH_take (i := 10) (v := ?_) rfl (by kernel_rfl) (by kernel_rfl) (by kernel_rfl) (fun c a w h => h) (Or.inl ⟨by rfl, ?_⟩) hHeld ?_
        rotate_left
        · (intro w hSw; (try dsimp only at hSw); go_simp; try with_reducible rfl)
        simp only [Act.put, List.getElem_toArray, List.getElem_cons_zero, List.getElem_cons_succ, List.setIfInBounds_toArray, List.set_cons_zero, List.set_cons_succ]
        refine wpAnyH_take (i := 11) (v := ?_) rfl (by kernel_rfl) (by kernel_rfl) (by kernel_rfl) (fun c a w h => h) (Or.inl ⟨by rfl, ?_⟩) hHeld ?_
        rotate_left
        · (intro w hSw; (try dsimp only at hSw); go_simp; try with_reducible rfl)
        simp only [Act.put, List.getElem_toArray, List.getElem_cons_zero, List.getElem_cons_succ, List.setIfInBounds_toArray, List.set_cons_zero, List.set_cons_succ]
        refine wpAnyH_take (i := 14) (v := ?_) rfl (by kernel_rfl) (by kernel_rfl) (by kernel_rfl) (fun c a w h => h) (Or.inl ⟨by rfl, ?_⟩) hHeld ?_
        rotate_left
        · (intro w hSw; (try dsimp only at hSw); go_simp; try with_reducible rfl)
        simp only [Act.put, List.getElem_toArray, List.getElem_cons_zero, List.getElem_cons_succ, List.setIfInBounds_toArray, List.set_cons_zero, List.set_cons_succ]
        refine wpAnyH_take (i := 15) (v := ?_) rfl (by kernel_rfl) (by kernel_rfl) (by kernel_rfl) (fun c a w h => h) (Or.inl ⟨by rfl, ?_⟩) hHeld ?_
        rotate_left
        · (intro w hSw; (try dsimp only at hSw); go_simp; try with_reducible rfl)
        simp only [Act.put, List.getElem_toArray, List.getElem_cons_zero, List.getElem_cons_succ, List.setIfInBounds_toArray, List.set_cons_zero, List.set_cons_succ]
        refine wpAnyH_take (i := 16) (v := ?_) rfl (by kernel_rfl) (by kernel_rfl) (by kernel_rfl) (fun c a w h => h) (Or.inl ⟨by rfl, ?_⟩) hHeld ?_
        rotate_left
        · (intro w hSw; (try dsimp only at hSw); go_simp; try with_reducible rfl)
        simp only [Act.put, List.getElem_toArray, List.getElem_cons_zero, List.getElem_cons_succ, List.setIfInBounds_toArray, List.set_cons_zero, List.set_cons_succ]
        refine wpAnyH_ready (rs := [12]) (by kernel_rfl) (by simp) ?_
        refine AllReadyH.cons rfl (fun K hK => ?_) AllReadyH.nil
        go_simp
        refine kT.mono ?_
        rintro e y1 ⟨rfl, hy⟩
        subst hy
        clear kT
        refine hK.out _ _ trivial (fun hHeld => ?_)
        clear hK K
        try simp only [Act.put, List.getElem_toArray, List.getElem_cons_zero, List.getElem_cons_succ, List.setIfInBounds_toArray, List.set_cons_zero, List.set_cons_succ]
        refine wpAnyH_take (i := 13) (v := ?_) rfl (by kernel_rfl) (by kernel_rfl) (by kernel_rfl) (fun c a w h => h) (Or.inl ⟨by rfl, ?_⟩) hHeld ?_
        rotate_left
        · (intro w hSw; (try dsimp only at hSw); go_simp; try with_reducible rfl)
        simp only [Act.put, List.getElem_toArray, List.getElem_cons_zero, List.getElem_cons_succ, List.setIfInBounds_toArray, List.set_cons_zero, List.set_cons_succ]
        refine wpAnyH_ready (rs := [17]) (by kernel_rfl) (by simp) ?_
        refine AllReadyH.cons rfl (fun K hK => ?_) AllReadyH.nil
        go_simp
        refine kD.mono ?_
        rintro e y2 ⟨rfl, hy⟩
        subst hy
        clear kD
        refine hK.out _ _ trivial (fun hHeld => ?_)
        clear hK K
        try simp only [Act.put, List.getElem_toArray, List.getElem_cons_zero, List.getElem_cons_succ, List.setIfInBounds_toArray, List.set_cons_zero, List.set_cons_succ]
        refine wpAnyH_take (i := 18) (v := ?_) rfl (by kernel_rfl) (by kernel_rfl) (by kernel_rfl) (fun c a w h => h) (Or.inl ⟨by rfl, ?_⟩) hHeld ?_
        rotate_left
        · (intro w hSw; (try dsimp only at hSw); go_simp; try with_reducible rfl)
        simp only [Act.put, List.getElem_toArray, List.getElem_cons_zero, List.getElem_cons_succ, List.setIfInBounds_toArray, List.set_cons_zero, List.set_cons_succ]
        refine wpAnyH_take (i := 19) (v := ?_) rfl (by kernel_rfl) (by kernel_rfl) (by kernel_rfl) (fun c a w h => h) (Or.inl ⟨by rfl, ?_⟩) hHeld ?_
        rotate_left
        · (intro w hSw; (try dsimp only at hSw); go_simp; try with_reducible rfl)
        simp only [Act.put, List.getElem_toArray, List.getElem_cons_zero, List.getElem_cons_succ, List.setIfInBounds_toArray, List.set_cons_zero, List.set_cons_succ]
        refine wpAnyH_take (i := 20) (v := ?_) rfl (by kernel_rfl) (by kernel_rfl) (by kernel_rfl) (fun c a w h => h) (Or.inl ⟨by rfl, ?_⟩) hHeld ?_
        rotate_left
        · (intro w hSw; (try dsimp only at hSw); go_simp; try with_reducible rfl)
        simp only [Act.put, List.getElem_toArray, List.getElem_cons_zero, List.getElem_cons_succ, List.setIfInBounds_toArray, List.set_cons_zero, List.set_cons_succ]
        refine wpAnyH_done (by kernel_rfl) ?_ _
        clear hHeld
        go_upto_region 5 with fail
        have z1 := HZd.out
        go_wp2_with (refine wpList_store_row rfl 27 _ _ rfl w.heap.size #[.slice none 0 0, .int .u16 0, .slice none 0 0, .slice none 0 0] rfl rfl 27 #[.slice none 0 0, .int .u16 0, .slice none 0 0, .slice none 0 0] z1 (by kernel_rfl) (by rfl) (by simp [Value.oneCell']) ?_)
        have hg := setRow_heap _ w.heap.size _ #[.slice none 0 0, .int .u16 0, .slice none 0 0, .slice none 0 0] _ _ z1
        have hbf := row_below HBd.out #[.slice none 0 0, .int .u16 0, .slice none 0 0, .slice none 0 0]
        generalize World.setRow _ w.heap.size #[.slice none 0 0, .int .u16 0, .slice none 0 0, .slice none 0 0] = z6 at *
        have r0 := cell_of z6 w.heap.size 0 [.slice none 0 0, .int .u16 0, .slice none 0 0, .slice none 0 0] 27 _ hg rfl
        have r1 := cell_of z6 w.heap.size 1 [.slice none 0 0, .int .u16 0, .slice none 0 0, .slice none 0 0] 27 _ hg rfl
        have r2 := cell_of z6 w.heap.size 2 [.slice none 0 0, .int .u16 0, .slice none 0 0, .slice none 0 0] 27 _ hg rfl
        have r3 := cell_of z6 w.heap.size 3 [.slice none 0 0, .int .u16 0, .slice none 0 0, .slice none 0 0] 27 _ hg rfl
        exact bodyPost_ret (v := .tuple #[.agg #[.slice none 0 0, .int .u16 0, .slice none 0 0, .slice none 0 0], .int .i64 71]) (by simp [results, Tryd.results20, go_sem, r0, r1, r2, r3]) rfl (dec_err' (k := 71) (d71 HBS.out.2 hso) hbf)
      subst hq
      have hso : sumOk b = true := by rw [HSo.out]; exact decide_eq_true rfl
      have HSO := hid hso
      have HWY := hid (show Below W1.heap.size W1 W1.drew from (Below.refl W1.heap.size W1).drew)
      clear hso HSo
      refine wp_region_held_drew (S := (fun _ : World => True)) (by kernel_rfl) trivial (fun hHeld => ?_)
      generalize W1.drew = y0 at *
      refine wpAnyH_take (i := 0) (v := ?_) rfl (by kernel_rfl) (by kernel_rfl) (by kernel_rfl) (fun c a w h => h) (Or.inl ⟨by rfl, ?_⟩) hHeld ?_
      rotate_left
      · (intro w hSw; (try dsimp only at hSw); go_simp; try with_reducible rfl)
      simp only [Act.put, List.getElem_toArray, List.getElem_cons_zero, List.getElem_cons_succ, List.setIfInBounds_toArray, List.set_cons_zero, List.set_cons_succ]
      refine wpAnyH_take (i := 1) (v := ?_) rfl (by kernel_rfl) (by kernel_rfl) (by kernel_rfl) (fun c a w h => h) (Or.inl ⟨by rfl, ?_⟩) hHeld ?_
      rotate_left
      · (intro w hSw; (try dsimp only at hSw); go_simp; try with_reducible rfl)
      simp only [Act.put, List.getElem_toArray, List.getElem_cons_zero, List.getElem_cons_succ, List.setIfInBounds_toArray, List.set_cons_zero, List.set_cons_succ]
      refine wpAnyH_take (i := 2) (v := ?_) rfl (by kernel_rfl) (by kernel_rfl) (by kernel_rfl) (fun c a w h => h) (Or.inl ⟨by rfl, ?_⟩) hHeld ?_
      rotate_left
      · (intro w hSw; (try dsimp only at hSw); go_simp; try with_reducible rfl)
      simp only [Act.put, List.getElem_toArray, List.getElem_cons_zero, List.getElem_cons_succ, List.setIfInBounds_toArray, List.set_cons_zero, List.set_cons_succ]
      refine wpAnyH_take (i := 3) (v := ?_) rfl (by kernel_rfl) (by kernel_rfl) (by kernel_rfl) (fun c a w h => h) (Or.inl ⟨by rfl, ?_⟩) hHeld ?_
      rotate_left
      · (intro w hSw; (try dsimp only at hSw); go_simp; try with_reducible rfl)
      simp only [Act.put, List.getElem_toArray, List.getElem_cons_zero, List.getElem_cons_succ, List.setIfInBounds_toArray, List.set_cons_zero, List.set_cons_succ]
      refine wpAnyH_take (i := 4) (v := ?_) rfl (by kernel_rfl) (by kernel_rfl) (by kernel_rfl) (fun c a w h => h) (Or.inl ⟨by rfl, ?_⟩) hHeld ?_
      rotate_left
      · (intro w hSw; (try dsimp only at hSw); go_simp; try with_reducible rfl)
      simp only [Act.put, List.getElem_toArray, List.getElem_cons_zero, List.getElem_cons_succ, List.setIfInBounds_toArray, List.set_cons_zero, List.set_cons_succ]
      refine wpAnyH_take (i := 5) (v := ?_) rfl (by kernel_rfl) (by kernel_rfl) (by kernel_rfl) (fun c a w h => h) (Or.inl ⟨by rfl, ?_⟩) hHeld ?_
      rotate_left
      · (intro w hSw; (try dsimp only at hSw); go_simp; try with_reducible rfl)
      simp only [Act.put, List.getElem_toArray, List.getElem_cons_zero, List.getElem_cons_succ, List.setIfInBounds_toArray, List.set_cons_zero, List.set_cons_succ]
      refine wpAnyH_take (i := 6) (v := ?_) rfl (by kernel_rfl) (by kernel_rfl) (by kernel_rfl) (fun c a w h => h) (Or.inl ⟨by rfl, ?_⟩) hHeld ?_
      rotate_left
      · (intro w hSw; (try dsimp only at hSw); go_simp; try with_reducible rfl)
      simp only [Act.put, List.getElem_toArray, List.getElem_cons_zero, List.getElem_cons_succ, List.setIfInBounds_toArray, List.set_cons_zero, List.set_cons_succ]
      refine wpAnyH_take (i := 7) (v := ?_) rfl (by kernel_rfl) (by kernel_rfl) (by kernel_rfl) (fun c a w h => h) (Or.inl ⟨by rfl, ?_⟩) hHeld ?_
      rotate_left
      · (intro w hSw; (try dsimp only at hSw); go_simp; try with_reducible rfl)
      simp only [Act.put, List.getElem_toArray, List.getElem_cons_zero, List.getElem_cons_succ, List.setIfInBounds_toArray, List.set_cons_zero, List.set_cons_succ]
      refine wpAnyH_take (i := 8) (v := ?_) rfl (by kernel_rfl) (by kernel_rfl) (by kernel_rfl) (fun c a w h => h) (Or.inl ⟨by rfl, ?_⟩) hHeld ?_
      rotate_left
      · (intro w hSw; (try dsimp only at hSw); go_simp; try with_reducible rfl)
      simp only [Act.put, List.getElem_toArray, List.getElem_cons_zero, List.getElem_cons_succ, List.setIfInBounds_toArray, List.set_cons_zero, List.set_cons_succ]
      refine wpAnyH_take (i := 9) (v := ?_) rfl (by kernel_rfl) (by kernel_rfl) (by kernel_rfl) (fun c a w h => h) (Or.inl ⟨by rfl, ?_⟩) hHeld ?_
      rotate_left
      · (intro w hSw; (try dsimp only at hSw); go_simp; try with_reducible rfl)
      simp only [Act.put, List.getElem_toArray, List.getElem_cons_zero, List.getElem_cons_succ, List.setIfInBounds_toArray, List.set_cons_zero, List.set_cons_succ]
      refine wpAnyH_take (i := 10) (v := ?_) rfl (by kernel_rfl) (by kernel_rfl) (by kernel_rfl) (fun c a w h => h) (Or.inl ⟨by rfl, ?_⟩) hHeld ?_
      rotate_left
      · (intro w hSw; (try dsimp only at hSw); go_simp; try with_reducible rfl)
      simp only [Act.put, List.getElem_toArray, List.getElem_cons_zero, List.getElem_cons_succ, List.setIfInBounds_toArray, List.set_cons_zero, List.set_cons_succ]
      refine wpAnyH_take (i := 11) (v := ?_) rfl (by kernel_rfl) (by kernel_rfl) (by kernel_rfl) (fun c a w h => h) (Or.inl ⟨by rfl, ?_⟩) hHeld ?_
      rotate_left
      · (intro w hSw; (try dsimp only at hSw); go_simp; try with_reducible rfl)
      simp only [Act.put, List.getElem_toArray, List.getElem_cons_zero, List.getElem_cons_succ, List.setIfInBounds_toArray, List.set_cons_zero, List.set_cons_succ]
      refine wpAnyH_take (i := 14) (v := ?_) rfl (by kernel_rfl) (by kernel_rfl) (by kernel_rfl) (fun c a w h => h) (Or.inl ⟨by rfl, ?_⟩) hHeld ?_
      rotate_left
      · (intro w hSw; (try dsimp only at hSw); go_simp; try with_reducible rfl)
      simp only [Act.put, List.getElem_toArray, List.getElem_cons_zero, List.getElem_cons_succ, List.setIfInBounds_toArray, List.set_cons_zero, List.set_cons_succ]
      refine wpAnyH_take (i := 15) (v := ?_) rfl (by kernel_rfl) (by kernel_rfl) (by kernel_rfl) (fun c a w h => h) (Or.inl ⟨by rfl, ?_⟩) hHeld ?_
      rotate_left
      · (intro w hSw; (try dsimp only at hSw); go_simp; try with_reducible rfl)
      simp only [Act.put, List.getElem_toArray, List.getElem_cons_zero, List.getElem_cons_succ, List.setIfInBounds_toArray, List.set_cons_zero, List.set_cons_succ]
      refine wpAnyH_take (i := 16) (v := ?_) rfl (by kernel_rfl) (by kernel_rfl) (by kernel_rfl) (fun c a w h => h) (Or.inl ⟨by rfl, ?_⟩) hHeld ?_
      rotate_left
      · (intro w hSw; (try dsimp only at hSw); go_simp; try with_reducible rfl)
      simp only [Act.put, List.getElem_toArray, List.getElem_cons_zero, List.getElem_cons_succ, List.setIfInBounds_toArray, List.set_cons_zero, List.set_cons_succ]
      refine wpAnyH_ready (rs := [12]) (by kernel_rfl) (by simp) ?_
      refine AllReadyH.cons rfl (fun K hK => ?_) AllReadyH.nil
      go_simp
      refine kT.mono ?_
      rintro e y1 ⟨rfl, hy⟩
      subst hy
      clear kT
      refine hK.out _ _ trivial (fun hHeld => ?_)
      clear hK K
      try simp only [Act.put, List.getElem_toArray, List.getElem_cons_zero, List.getElem_cons_succ, List.setIfInBounds_toArray, List.set_cons_zero, List.set_cons_succ]
      refine wpAnyH_take (i := 13) (v := ?_) rfl (by kernel_rfl) (by kernel_rfl) (by kernel_rfl) (fun c a w h => h) (Or.inl ⟨by rfl, ?_⟩) hHeld ?_
      rotate_left
      · (intro w hSw; (try dsimp only at hSw); go_simp; try with_reducible rfl)
      simp only [Act.put, List.getElem_toArray, List.getElem_cons_zero, List.getElem_cons_succ, List.setIfInBounds_toArray, List.set_cons_zero, List.set_cons_succ]
      refine wpAnyH_ready (rs := [17]) (by kernel_rfl) (by simp) ?_
      refine AllReadyH.cons rfl (fun K hK => ?_) AllReadyH.nil
      go_simp
      refine kD.mono ?_
      rintro e y2 ⟨rfl, hy⟩
      subst hy
      clear kD
      refine hK.out _ _ trivial (fun hHeld => ?_)
      clear hK K
      try simp only [Act.put, List.getElem_toArray, List.getElem_cons_zero, List.getElem_cons_succ, List.setIfInBounds_toArray, List.set_cons_zero, List.set_cons_succ]
      refine wpAnyH_take (i := 18) (v := ?_) rfl (by kernel_rfl) (by kernel_rfl) (by kernel_rfl) (fun c a w h => h) (Or.inl ⟨by rfl, ?_⟩) hHeld ?_
      rotate_left
      · (intro w hSw; (try dsimp only at hSw); go_simp; try with_reducible rfl)
      simp only [Act.put, List.getElem_toArray, List.getElem_cons_zero, List.getElem_cons_succ, List.setIfInBounds_toArray, List.set_cons_zero, List.set_cons_succ]
      refine wpAnyH_take (i := 19) (v := ?_) rfl (by kernel_rfl) (by kernel_rfl) (by kernel_rfl) (fun c a w h => h) (Or.inl ⟨by rfl, ?_⟩) hHeld ?_
      rotate_left
      · (intro w hSw; (try dsimp only at hSw); go_simp; try with_reducible rfl)
      simp only [Act.put, List.getElem_toArray, List.getElem_cons_zero, List.getElem_cons_succ, List.setIfInBounds_toArray, List.set_cons_zero, List.set_cons_succ]
      refine wpAnyH_take (i := 20) (v := ?_) rfl (by kernel_rfl) (by kernel_rfl) (by kernel_rfl) (fun c a w h => h) (Or.inl ⟨by rfl, ?_⟩) hHeld ?_
      rotate_left
      · (intro w hSw; (try dsimp only at hSw); go_simp; try with_reducible rfl)
      simp only [Act.put, List.getElem_toArray, List.getElem_cons_zero, List.getElem_cons_succ, List.setIfInBounds_toArray, List.set_cons_zero, List.set_cons_succ]
      refine wpAnyH_done (by kernel_rfl) ?_ _
      clear hHeld
      go_upto_region 6 with fail
      have hby := bs_below HBS.out.1 HWY.out
      have HM := hid HBS.out.2
      obtain ⟨m, hmm⟩ : ∃ m, many b = m := ⟨_, rfl⟩
      have hm255 : m ≤ 255 := by rw [← hmm]; unfold many; have := u8lt (b.getD 5 0); omega
      have c5 : y2.cell? (x.add 5) = some (.int .u8 (m : Int)) := by
        obtain ⟨x', e, c⟩ := hby.at 5 b[5] (List.getElem?_eq_getElem (by omega))
        cases e
        rw [c, ← hmm]
        unfold many
        rw [List.getD_eq_getElem?_getD, List.getElem?_eq_getElem (by omega)]
        rfl
      have c5' : y2.cell? ⟨x.block, x.off + 5, none⟩ = some (.int .u8 (m : Int)) := c5
      have i5b : (5 : Int) < (b.length : Int) := by omega
      have wm0 : IntKind.i64.wrap (m : Int) = (m : Int) := IntWalk.i64_in _ (by omega)
      have wm1 : IntKind.i64.wrap (10 * (m : Int)) = 10 * (m : Int) := IntWalk.i64_in _ (by omega)
      have wm2 : IntKind.i64.wrap (8 + 10 * (m : Int)) = ((8 + 10 * m : Nat) : Int) := by rw [IntWalk.i64_in _ (by omega)]; omega
      have HY := hid (And.intro hby hmm)
      clear hby hmm HBS u1 u2 u3 u4 it1 it2 it3 sT sD' HWY
      go_upto_region 8 with fail
      clear c5 c5'
      go_cut [67] (fun s wc => s = .bool (decide (m < 2 ∨ 18 < m ∨ t < 8 + 10 * m)) ∧ wc = y2)
      case first =>
        as_aux_lemma =>
          by_cases a1 : m < 2
          · have g1 : decide ((m : Int) < 2) = true := decide_eq_true (by omega)
            go_wp2
            go_meet
            case rel => exact ⟨by rw [decide_eq_true (Or.inl a1)], rfl⟩
          have g1 : decide ((m : Int) < 2) = false := decide_eq_false (by omega)
          by_cases a2 : 18 < m
          · have g2 : decide ((18 : Int) < (m : Int)) = true := decide_eq_true (by omega)
            go_wp2
            go_meet
            case rel => exact ⟨by rw [decide_eq_true (Or.inr (Or.inl a2))], rfl⟩
          have g2 : decide ((18 : Int) < (m : Int)) = false := decide_eq_false (by omega)
          by_cases a3 : t < 8 + 10 * m
          · have g3 : decide ((t : Int) < ((8 + 10 * m : Nat) : Int)) = true := decide_eq_true (by omega)
            have g4 : (t : Int) < 8 + 10 * (m : Int) := by omega
            go_wp2
            go_meet
            case rel => exact ⟨by rw [decide_eq_true (Or.inr (Or.inr a3))], rfl⟩
          have g3 : decide ((t : Int) < ((8 + 10 * m : Nat) : Int)) = false := decide_eq_false (by omega)
          have g4 : ¬ (t : Int) < 8 + 10 * (m : Int) := by omega
          go_wp2
          go_meet
          case rel => exact ⟨by rw [decide_eq_false (by omega)], rfl⟩
      case rest =>
        as_aux_lemma =>
          obtain ⟨rfl, hwy⟩ := hcut
          rw [hwy]
          clear hwy wc
          by_cases hbad : m < 2 ∨ 18 < m ∨ t < 8 + 10 * m
          · rw [decide_eq_true hbad]
            have htn : table (body b) (many b) = none := by
              unfold table
              rw [if_pos]
              unfold body
              rw [HY.out.2, List.length_take]
              omega
            go_upto_region 9 with fail
            have z1 := HZd.out
            go_wp2_with (refine wpList_store_row rfl 27 _ _ rfl w.heap.size #[.slice none 0 0, .int .u16 0, .slice none 0 0, .slice none 0 0] rfl rfl 27 #[.slice none 0 0, .int .u16 0, .slice none 0 0, .slice none 0 0] z1 (by kernel_rfl) (by rfl) (by simp [Value.oneCell']) ?_)
            have hg := setRow_heap _ w.heap.size _ #[.slice none 0 0, .int .u16 0, .slice none 0 0, .slice none 0 0] _ _ z1
            have hbf := row_below HBd.out #[.slice none 0 0, .int .u16 0, .slice none 0 0, .slice none 0 0]
            generalize World.setRow _ w.heap.size #[.slice none 0 0, .int .u16 0, .slice none 0 0, .slice none 0 0] = z6 at *
            have r0 := cell_of z6 w.heap.size 0 [.slice none 0 0, .int .u16 0, .slice none 0 0, .slice none 0 0] 27 _ hg rfl
            have r1 := cell_of z6 w.heap.size 1 [.slice none 0 0, .int .u16 0, .slice none 0 0, .slice none 0 0] 27 _ hg rfl
            have r2 := cell_of z6 w.heap.size 2 [.slice none 0 0, .int .u16 0, .slice none 0 0, .slice none 0 0] 27 _ hg rfl
            have r3 := cell_of z6 w.heap.size 3 [.slice none 0 0, .int .u16 0, .slice none 0 0, .slice none 0 0] 27 _ hg rfl
            exact bodyPost_ret (v := .tuple #[.agg #[.slice none 0 0, .int .u16 0, .slice none 0 0, .slice none 0 0], .int .i64 72]) (by simp [results, Tryd.results20, go_sem, r0, r1, r2, r3]) rfl (dec_err' (k := 72) (d72 HM.out HSO.out htn) hbf)
          rw [decide_eq_false hbad]
          have hmt : 2 ≤ m ∧ m ≤ 18 ∧ 8 + 10 * m ≤ t := by omega
          clear hbad
          go_wp2_with fail
          go_loopw [6, 7, 8, 9, 10] (fun a v i _ _ wr => ∃ (k : Nat) (prs : List (Sec × Value)), k ≤ m ∧ i = .int .i64 (k : Int) ∧ a = .int .i64 ((ats b m k : Nat) : Int) ∧ ats b m k ≤ t ∧ prs.map Prod.fst = secsR b m k ∧ (∀ j, j < k → okr b m j) ∧ Sy y2 wr v prs) (fun _ _ i _ _ _ => m - (intOf i).toNat)
          case atStart => exact ⟨0, [], Nat.zero_le _, rfl, (by first | rfl | (show Value.int .i64 _ = Value.int .i64 ((8 + 10 * m : Nat) : Int); congr 1)), hmt.2.2, rfl, (fun j hj => absurd hj (Nat.not_lt_zero j)), sy_nil _⟩
          case round =>
            as_aux_lemma =>
              obtain ⟨k, prs, hk, rfl, rfl, hat, hP, hok, hX⟩ := hrel
              have hlp : prs.length = k := by have := congrArg List.length hP; rw [List.length_map, secsR_len] at this; exact this
              have HP := hid hP
              have HOK := hid hok
              have hZr := (hX.bel.block _ (lt_of HZd.out)).trans HZd.out
              have hBr := HBd.out.trans (hX.bel.mono HBd.out.size)
              obtain ⟨vp, vc, hvv, hses⟩ := hX.ses
              rw [hP] at hses
              have hbr := bs_below HY.out.1 hX.bel
              have HX := hid hX
              have HSE := hid hses
              clear hP hok hX hses
              by_cases hlt : k < m
              case neg =>
                obtain rfl : m = k := by omega
                rw [hvv, hlp]
                have hn1 : ¬ (m : Int) < (m : Int) := by omega
                have kR := right_any vp vc (secsR b m m) (by rw [secsR_len]; omega) wr HSE.out
                rw [secsR_len] at kR
                have htab := table_ref b m hmt.1 hmt.2.1 (by unfold body; rw [List.length_take]; omega)
                have htn : ¬ (ats b m m = t ∧ RT (secsR b m m) = true) → table (body b) (many b) = none := fun g => by
                  rw [HY.out.2, htab, if_neg]
                  exact fun q => g ⟨by have := q.2.1; omega, q.2.2⟩
                have htp : (ats b m m = t ∧ RT (secsR b m m) = true) → table (body b) (many b) = some (secsR b m m) := fun g => by
                  rw [HY.out.2, htab, if_pos]
                  exact ⟨HOK.out, by have := g.1; omega, g.2⟩
                have HBr := hid (And.intro hBr hZr)
                have HTN := hid htn
                have HTP := hid htp
                rw [hlp] at hvv
                have HVV := hid hvv
                clear htab htn htp hBr hZr hbr hvv
                obtain ⟨AT, hAT⟩ : ∃ AT, ats b m m = AT := ⟨_, rfl⟩
                obtain ⟨rt, hrt⟩ : ∃ rt, RT (secsR b m m) = rt := ⟨_, rfl⟩
                rw [hAT] at hat
                rw [hAT]
                rw [hrt] at kR
                have HAR := hid (And.intro hAT hrt)
                clear hAT hrt
                go_upto_region 20 with fail
                go_cut [124] (fun s wz => s = .bool (!decide (AT = t ∧ rt = true)) ∧ Below wr.heap.size wr wz)
                case first =>
                  as_aux_lemma =>
                    by_cases q1 : AT = t
                    case neg =>
                      have e1 : ((AT : Int) != (t : Int)) = true := by simp; omega
                      have e2 : ¬ (AT : Int) = (t : Int) := by omega
                      clear kR
                      go_wp2
                      go_meet
                      case rel => exact ⟨by simp [q1], Below.refl _ _⟩
                    subst q1
                    go_wp2_with fail
                    refine kR.mono ?_
                    rintro e wx ⟨rfl, hbx⟩
                    have HBX := hid hbx
                    clear hbx kR
                    dsimp only
                    cases rt
                    · go_wp2
                      go_meet
                      case rel => exact ⟨by simp, HBX.out⟩
                    · go_wp2
                      go_meet
                      case rel => exact ⟨by simp, HBX.out⟩
                case rest =>
                  as_aux_lemma =>
                    clear kR
                    obtain ⟨rfl, hbz⟩ := hcut
                    have hB2 := HBr.out.1.trans (hbz.mono HBr.out.1.size)
                    have hZ2 := (hbz.block _ (lt_of HBr.out.2)).trans HBr.out.2
                    have HB2 := hid (And.intro hB2 hZ2)
                    have HX2 := hid (HX.out.below hbz)
                    clear hB2 hZ2 HBr HX
                    by_cases hgo : AT = t ∧ rt = true
                    case neg =>
                      rw [decide_eq_false hgo]
                      have htn := HTN.out (by rw [HAR.out.1, HAR.out.2]; exact hgo)
                      simp only [Bool.not_false]
                      go_upto_region 21 with fail
                      have z1 := HB2.out.2
                      go_wp2_with (refine wpList_store_row rfl 27 _ _ rfl w.heap.size #[.slice none 0 0, .int .u16 0, .slice none 0 0, .slice none 0 0] rfl rfl 27 #[.slice none 0 0, .int .u16 0, .slice none 0 0, .slice none 0 0] z1 (by kernel_rfl) (by rfl) (by simp [Value.oneCell']) ?_)
                      have hg := setRow_heap _ w.heap.size _ #[.slice none 0 0, .int .u16 0, .slice none 0 0, .slice none 0 0] _ _ z1
                      have hbf := row_below HB2.out.1 #[.slice none 0 0, .int .u16 0, .slice none 0 0, .slice none 0 0]
                      generalize World.setRow _ w.heap.size #[.slice none 0 0, .int .u16 0, .slice none 0 0, .slice none 0 0] = z6 at *
                      have r0 := cell_of z6 w.heap.size 0 [.slice none 0 0, .int .u16 0, .slice none 0 0, .slice none 0 0] 27 _ hg rfl
                      have r1 := cell_of z6 w.heap.size 1 [.slice none 0 0, .int .u16 0, .slice none 0 0, .slice none 0 0] 27 _ hg rfl
                      have r2 := cell_of z6 w.heap.size 2 [.slice none 0 0, .int .u16 0, .slice none 0 0, .slice none 0 0] 27 _ hg rfl
                      have r3 := cell_of z6 w.heap.size 3 [.slice none 0 0, .int .u16 0, .slice none 0 0, .slice none 0 0] 27 _ hg rfl
                      exact bodyPost_ret (v := .tuple #[.agg #[.slice none 0 0, .int .u16 0, .slice none 0 0, .slice none 0 0], .int .i64 72]) (by simp [results, Tryd.results20, go_sem, r0, r1, r2, r3]) rfl (dec_err' (k := 72) (d72 HM.out HSO.out htn) hbf)
                    rw [decide_eq_true hgo]
                    simp only [Bool.not_true]
                    have htp := HTP.out (by rw [HAR.out.1, HAR.out.2]; exact hgo)
                    have HTT := hid htp
                    have HRT := hid (show RT (secsR b m m) = true by rw [HAR.out.2]; exact hgo.2)
                    clear htp HTP HTN HAR hgo hn1 hbz
                    obtain ⟨gv, cv, hvg⟩ := own_pos HX2.out.row (by rw [hlp]; omega)
                    rw [hlp] at hvg
                    have hvs := HVV.out.symm.trans hvg
                    rw [hvs]
                    rw [hvg] at HX2
                    obtain ⟨x0, hx0, hx0s⟩ := sec_at HP.out (show 0 < m by omega)
                    obtain ⟨_, c02, s02, r02⟩ := HX2.out.cell 0 x0 hx0
                    rw [hx0s, ← (s0_at (b := b) hmt.1).1] at s02 r02
                    obtain ⟨p0, cc0, hp0, _⟩ := s02.ex
                    rw [hp0] at c02 s02
                    obtain ⟨cd0, hcd0⟩ : ∃ cd0, s0 (secsR b m m) = cd0 := ⟨_, rfl⟩
                    rw [hcd0] at c02 s02 r02
                    have hmk : ∀ X : World, Below wc.heap.size wc X → (fun wz : World => wz.cell? ⟨gv, 2, none⟩ = some (.slice p0 cd0.length cc0)) X := fun X hX => below_cell hX _ _ c02
                    have hrow2 : ((b.drop 6).take 2).length = 2 := by rw [List.length_take, List.length_drop]; omega
                    have hnl2 := numL_lt ((b.drop 6).take 2)
                    rw [hrow2] at hnl2
                    obtain ⟨en, hen⟩ : ∃ en, entryOf b = en := ⟨_, rfl⟩
                    have hen' : numL ((b.drop 6).take 2) = en := hen
                    rw [hen'] at hnl2
                    have hen3 : en < 65536 := hnl2
                    have hlow : ∀ X : World, Below wc.heap.size wc X → Calls Tryd.prog 43 #[.slice (some (x.add 6)) 2 (cp - 6)] X fun e w' => e = .returned (.int .i64 (en : Int)) ∧ w' = X := fun X hX => by
                      have := rlow_any (some (x.add 6)) (cp - 6) ((b.drop 6).take 2) (by omega) X (bs_take (bs_drop (bs_below (bs_below HY.out.1 HX2.out.bel) hX) 6) 2)
                      rwa [hrow2, hen'] at this
                    have s22 := fun W => slice_b x b.length cp 6 8 6 8 rfl rfl (by omega) (by omega) (by omega) 2 rfl W
                    have wen : IntKind.u16.wrap (en : Int) = (en : Int) := IntWalk.u16_in _ (by omega)
                    have wen2 : (en : Int) % 65536 = (en : Int) := by omega
                    have HMK := hid hmk
                    have HLW := hid hlow
                    have HS0 := hid s02
                    have HEN := hid hen
                    have HCD := hid hcd0
                    have HX0 := hid (And.intro hx0 (show some x0.2 = some (.slice p0 cd0.length cc0) by rw [hp0, hcd0]))
                    have HBq0 := hid (Below.refl wc.heap.size wc).drew
                    have hcdl : cd0.length ≤ room := r02
                    have i0m : 0 < m := by omega
                    clear hmk hlow s02 hx0s hp0 c02 hen hen' hnl2 hrow2 hcd0 hvs hx0 r02 hvg
                    go_upto_region 22 with fail
                    go_cut [11] (fun s wz => ∃ g kv, s = .pointer (some ⟨g, 0, none⟩) ∧ DX w y2 wz (.slice (some ⟨gv, 0, none⟩) m cv) prs cd0 kv en (.slice none 0 0) (.slice none 0 0) g)
                    case first =>
                      as_aux_lemma =>
                        refine wp_region_held_drew (S := (fun wz : World => wz.cell? ⟨gv, 2, none⟩ = some (.slice p0 cd0.length cc0))) (by kernel_rfl) (HMK.out _ HBq0.out) (fun hHeld => ?_)
                        generalize wc.drew = q0 at *
                        refine wpAnyH_take (i := 1) (v := ?_) rfl (by kernel_rfl) (by kernel_rfl) (by kernel_rfl) (fun c a w h => h) (Or.inl ⟨by rfl, ?_⟩) hHeld ?_
                        rotate_left
                        · (intro w hSw; (try dsimp only at hSw); go_simp; try with_reducible rfl)
                        simp only [Act.put, List.getElem_toArray, List.getElem_cons_zero, List.getElem_cons_succ, List.setIfInBounds_toArray, List.set_cons_zero, List.set_cons_succ]
                        refine wpAnyH_take (i := 2) (v := ?_) rfl (by kernel_rfl) (by kernel_rfl) (by kernel_rfl) (fun c a w h => h) (Or.inl ⟨by rfl, ?_⟩) hHeld ?_
                        rotate_left
                        · (intro w hSw; (try dsimp only at hSw); go_simp; try with_reducible rfl)
                        simp only [Act.put, List.getElem_toArray, List.getElem_cons_zero, List.getElem_cons_succ, List.setIfInBounds_toArray, List.set_cons_zero, List.set_cons_succ]
                        refine wpAnyH_take (i := 3) (v := ?_) rfl (by kernel_rfl) (by kernel_rfl) (by kernel_rfl) (fun c a w h => h) (Or.inl ⟨by rfl, ?_⟩) hHeld ?_
                        rotate_left
                        · (intro w hSw; (try dsimp only at hSw); go_simp; try with_reducible rfl)
                        simp only [Act.put, List.getElem_toArray, List.getElem_cons_zero, List.getElem_cons_succ, List.setIfInBounds_toArray, List.set_cons_zero, List.set_cons_succ]
                        refine wpAnyH_take (i := 4) (v := ?_) rfl (by kernel_rfl) (by kernel_rfl) (by kernel_rfl) (fun c a w h => h) (Or.inl ⟨by rfl, ?_⟩) hHeld ?_
                        rotate_left
                        · (intro w hSw; (try dsimp only at hSw); go_simp; try with_reducible rfl)
                        simp only [Act.put, List.getElem_toArray, List.getElem_cons_zero, List.getElem_cons_succ, List.setIfInBounds_toArray, List.set_cons_zero, List.set_cons_succ]
                        refine wpAnyH_take (i := 6) (v := ?_) rfl (by kernel_rfl) (by kernel_rfl) (by kernel_rfl) (fun c a w h => h) (Or.inl ⟨by rfl, ?_⟩) hHeld ?_
                        rotate_left
                        · (intro w hSw; (try dsimp only at hSw); go_simp; try with_reducible rfl)
                        simp only [Act.put, List.getElem_toArray, List.getElem_cons_zero, List.getElem_cons_succ, List.setIfInBounds_toArray, List.set_cons_zero, List.set_cons_succ]
                        refine wpAnyH_take (i := 7) (v := ?_) rfl (by kernel_rfl) (by kernel_rfl) (by kernel_rfl) (fun c a w h => h) (Or.inl ⟨by rfl, ?_⟩) hHeld ?_
                        rotate_left
                        · (intro w hSw; (try dsimp only at hSw); go_simp; try with_reducible rfl)
                        simp only [Act.put, List.getElem_toArray, List.getElem_cons_zero, List.getElem_cons_succ, List.setIfInBounds_toArray, List.set_cons_zero, List.set_cons_succ]
                        refine wpAnyH_ready (rs := [0, 11]) (by kernel_rfl) (by simp) ?_
                        refine AllReadyH.cons rfl (fun K hK => ?_) ?_
                        · go_simp
                          have kk : Below q0.heap.size q0 (q0.alloc (.cells #[] 5)) := (Below.refl _ _).alloc (Nat.le_refl _) _
                          have ow := own_z q0 5 1
                          generalize q0.alloc (.cells #[] 5) = q1 at *
                          obtain ⟨g0, hbn⟩ : ∃ bn, q0.heap.size = bn := ⟨_, rfl⟩
                          have HBq1 := hid (HBq0.out.trans (kk.mono HBq0.out.size))
                          have HRq1 := hid (show Row q1 wc.heap.size (.slice (some ⟨g0, 0, none⟩) 0 0) [] by rw [← hbn]; exact own_lo ow HBq0.out.size)
                          rw [hbn]
                          refine hK.out _ _ (HMK.out _ HBq1.out) (fun hHeld => ?_)
                          clear hK K hbn ow kk
                          try simp only [Act.put, List.getElem_toArray, List.getElem_cons_zero, List.getElem_cons_succ, List.setIfInBounds_toArray, List.set_cons_zero, List.set_cons_succ]
                          refine wpAnyH_ready (rs := [5, 11]) (by kernel_rfl) (by simp) ?_
                          refine AllReadyH.cons rfl (fun K hK => ?_) ?_
                          · rw [if_pos (by rfl)]
                            refine wp_append_bytes q1 (.tmp 126) (.tmp 130) rfl wc.heap.size _ [] (by simp [Act.eval]) HRq1.out _ cd0 (by simp [Act.eval]) (HS0.out.below HBq1.out) (by simp only [List.length_nil]; omega) HBq1.out.size (fun v5 q2 hr5 hg5 => ?_)
                            rw [List.nil_append] at hr5
                            obtain ⟨kp5, kc5, hv5, _⟩ := hr5.sl.ex
                            subst hv5
                            have HBq2 := hid (hg5.belowAll (fun g e => (HRq1.out.lt g e).1) HBq1.out (Nat.le_refl _))
                            have HRq2 := hid hr5
                            refine hK.out _ _ (HMK.out _ HBq2.out) (fun hHeld => ?_)
                            clear hK K hr5 hg5
                            try simp only [Act.put, List.getElem_toArray, List.getElem_cons_zero, List.getElem_cons_succ, List.setIfInBounds_toArray, List.set_cons_zero, List.set_cons_succ]
                            refine wpAnyH_ready (rs := [8, 11]) (by kernel_rfl) (by simp) ?_
                            refine AllReadyH.cons rfl (fun K hK => ?_) ?_
                            · go_simp
                              refine (HLW.out q2 HBq2.out).mono ?_
                              rintro e wx ⟨rfl, hwx⟩
                              dsimp only
                              rw [hwx]
                              refine hK.out _ _ (HMK.out _ HBq2.out) (fun hHeld => ?_)
                              clear hK K hwx wx
                              try simp only [Act.put, List.getElem_toArray, List.getElem_cons_zero, List.getElem_cons_succ, List.setIfInBounds_toArray, List.set_cons_zero, List.set_cons_succ]
                              refine wpAnyH_take (i := 9) (v := ?_) rfl (by kernel_rfl) (by kernel_rfl) (by kernel_rfl) (fun c a w h => h) (Or.inl ⟨by rfl, ?_⟩) hHeld ?_
                              rotate_left
                              · (intro w hSw; (try dsimp only at hSw); go_simp; try with_reducible rfl)
                              simp only [Act.put, List.getElem_toArray, List.getElem_cons_zero, List.getElem_cons_succ, List.setIfInBounds_toArray, List.set_cons_zero, List.set_cons_succ]
                              refine wpAnyH_take (i := 10) (v := ?_) rfl (by kernel_rfl) (by kernel_rfl) (by kernel_rfl) (fun c a w h => h) (Or.inl ⟨by rfl, ?_⟩) hHeld ?_
                              rotate_left
                              · (intro w hSw; (try dsimp only at hSw); go_simp; try with_reducible rfl)
                              simp only [Act.put, List.getElem_toArray, List.getElem_cons_zero, List.getElem_cons_succ, List.setIfInBounds_toArray, List.set_cons_zero, List.set_cons_succ]
                              refine wpAnyH_ready (rs := [11]) (by kernel_rfl) (by simp) ?_
                              refine AllReadyH.cons rfl (fun K hK => ?_) AllReadyH.nil
                              go_simp
                              have kk : Below q2.heap.size q2 (q2.alloc (.cells #[.slice none 0 0, .int .u16 0, .slice none 0 0, .slice none 0 0] 27)) := (Below.refl _ _).alloc (Nat.le_refl _) _
                              have hz : (q2.alloc (.cells #[.slice none 0 0, .int .u16 0, .slice none 0 0, .slice none 0 0] 27)).heap[q2.heap.size]? = some (.cells zCt.toArray 27 (0, 0)) := heap_alloc_new q2 _
                              generalize q2.alloc (.cells #[.slice none 0 0, .int .u16 0, .slice none 0 0, .slice none 0 0] 27) = q4 at *
                              obtain ⟨g3, hbn⟩ : ∃ bn, q2.heap.size = bn := ⟨_, rfl⟩
                              have HBq4 := hid (HBq2.out.trans (kk.mono HBq2.out.size))
                              have HRq4 := hid (row_kt HRq2.out (T := 80) (by decide) (KT.below kk))
                              have HGq4 := hid (And.intro (show q4.heap[g3]? = some (.cells zCt.toArray 27 (0, 0)) by rw [← hbn]; exact hz) (show wc.heap.size ≤ g3 by rw [← hbn]; exact HBq2.out.size))
                              rw [hbn]
                              refine hK.out _ _ (HMK.out _ HBq4.out) (fun hHeld => ?_)
                              clear hK K hbn hz kk
                              try simp only [Act.put, List.getElem_toArray, List.getElem_cons_zero, List.getElem_cons_succ, List.setIfInBounds_toArray, List.set_cons_zero, List.set_cons_succ]
                              refine wpAnyH_ready (rs := [12]) (by kernel_rfl) (by simp) ?_
                              refine AllReadyH.cons rfl (fun K hK => ?_) AllReadyH.nil
                              rw [if_pos (by rfl)]
                              refine wp_store_row 27 _ _ rfl g3 [.slice kp5 cd0.length kc5, .int .u16 (en : Int), .slice none 0 0, .slice none 0 0].toArray (by simp [Act.eval]) (by simp [Act.eval]) 27 zCt.toArray HGq4.out.1 (by kernel_rfl) (by rfl) (by simp [Value.oneCell']) ?_
                              have HDX := hid (DX.make (w := w) (lt_of HZd.out) (HB2.out.1.trans (HBq4.out.mono HB2.out.1.size)) ((HBq4.out.block _ (lt_of HB2.out.2)).trans HB2.out.2) (HX2.out.below HBq4.out) HGq4.out.1 (Nat.le_trans HX2.out.bel.size HGq4.out.2) (en := en) (own_lo HRq4.out HX2.out.bel.size))
                              refine hK.out _ _ ((HDX.out.sy.cell 0 x0 HX0.out.1).2.1.trans HX0.out.2) (fun hHeld => ?_)
                              clear hK K hHeld
                              try simp only [Act.put, List.getElem_toArray, List.getElem_cons_zero, List.getElem_cons_succ, List.setIfInBounds_toArray, List.set_cons_zero, List.set_cons_succ]
                              refine wpAnyH_done (by kernel_rfl) ?_ _
                              generalize q4.setRow g3 [.slice kp5 cd0.length kc5, .int .u16 (en : Int), .slice none 0 0, .slice none 0 0].toArray = yz at *
                              go_wp2
                              go_meet
                              case rel => exact ⟨g3, _, rfl, HDX.out⟩
                            refine AllReadyH.cons rfl (fun K hK => ?_) AllReadyH.nil
                            go_simp
                            have kk : Below q2.heap.size q2 (q2.alloc (.cells #[.slice none 0 0, .int .u16 0, .slice none 0 0, .slice none 0 0] 27)) := (Below.refl _ _).alloc (Nat.le_refl _) _
                            have hz : (q2.alloc (.cells #[.slice none 0 0, .int .u16 0, .slice none 0 0, .slice none 0 0] 27)).heap[q2.heap.size]? = some (.cells zCt.toArray 27 (0, 0)) := heap_alloc_new q2 _
                            generalize q2.alloc (.cells #[.slice none 0 0, .int .u16 0, .slice none 0 0, .slice none 0 0] 27) = q5 at *
                            obtain ⟨g3, hbn⟩ : ∃ bn, q2.heap.size = bn := ⟨_, rfl⟩
                            have HBq5 := hid (HBq2.out.trans (kk.mono HBq2.out.size))
                            have HRq5 := hid (row_kt HRq2.out (T := 80) (by decide) (KT.below kk))
                            have HGq5 := hid (And.intro (show q5.heap[g3]? = some (.cells zCt.toArray 27 (0, 0)) by rw [← hbn]; exact hz) (show wc.heap.size ≤ g3 by rw [← hbn]; exact HBq2.out.size))
                            rw [hbn]
                            refine hK.out _ _ (HMK.out _ HBq5.out) (fun hHeld => ?_)
                            clear hK K hbn hz kk
                            try simp only [Act.put, List.getElem_toArray, List.getElem_cons_zero, List.getElem_cons_succ, List.setIfInBounds_toArray, List.set_cons_zero, List.set_cons_succ]
                            refine wpAnyH_ready (rs := [8]) (by kernel_rfl) (by simp) ?_
                            refine AllReadyH.cons rfl (fun K hK => ?_) AllReadyH.nil
                            go_simp
                            refine (HLW.out q5 HBq5.out).mono ?_
                            rintro e wx ⟨rfl, hwx⟩
                            dsimp only
                            rw [hwx]
                            refine hK.out _ _ (HMK.out _ HBq5.out) (fun hHeld => ?_)
                            clear hK K hwx wx
                            try simp only [Act.put, List.getElem_toArray, List.getElem_cons_zero, List.getElem_cons_succ, List.setIfInBounds_toArray, List.set_cons_zero, List.set_cons_succ]
                            refine wpAnyH_take (i := 9) (v := ?_) rfl (by kernel_rfl) (by kernel_rfl) (by kernel_rfl) (fun c a w h => h) (Or.inl ⟨by rfl, ?_⟩) hHeld ?_
                            rotate_left
                            · (intro w hSw; (try dsimp only at hSw); go_simp; try with_reducible rfl)
                            simp only [Act.put, List.getElem_toArray, List.getElem_cons_zero, List.getElem_cons_succ, List.setIfInBounds_toArray, List.set_cons_zero, List.set_cons_succ]
                            refine wpAnyH_take (i := 10) (v := ?_) rfl (by kernel_rfl) (by kernel_rfl) (by kernel_rfl) (fun c a w h => h) (Or.inl ⟨by rfl, ?_⟩) hHeld ?_
                            rotate_left
                            · (intro w hSw; (try dsimp only at hSw); go_simp; try with_reducible rfl)
                            simp only [Act.put, List.getElem_toArray, List.getElem_cons_zero, List.getElem_cons_succ, List.setIfInBounds_toArray, List.set_cons_zero, List.set_cons_succ]
                            refine wpAnyH_ready (rs := [12]) (by kernel_rfl) (by simp) ?_
                            refine AllReadyH.cons rfl (fun K hK => ?_) AllReadyH.nil
                            rw [if_pos (by rfl)]
                            refine wp_store_row 27 _ _ rfl g3 [.slice kp5 cd0.length kc5, .int .u16 (en : Int), .slice none 0 0, .slice none 0 0].toArray (by simp [Act.eval]) (by simp [Act.eval]) 27 zCt.toArray HGq5.out.1 (by kernel_rfl) (by rfl) (by simp [Value.oneCell']) ?_
                            have HDX := hid (DX.make (w := w) (lt_of HZd.out) (HB2.out.1.trans (HBq5.out.mono HB2.out.1.size)) ((HBq5.out.block _ (lt_of HB2.out.2)).trans HB2.out.2) (HX2.out.below HBq5.out) HGq5.out.1 (Nat.le_trans HX2.out.bel.size HGq5.out.2) (en := en) (own_lo HRq5.out HX2.out.bel.size))
                            refine hK.out _ _ ((HDX.out.sy.cell 0 x0 HX0.out.1).2.1.trans HX0.out.2) (fun hHeld => ?_)
                            clear hK K hHeld
                            try simp only [Act.put, List.getElem_toArray, List.getElem_cons_zero, List.getElem_cons_succ, List.setIfInBounds_toArray, List.set_cons_zero, List.set_cons_succ]
                            refine wpAnyH_done (by kernel_rfl) ?_ _
                            generalize q5.setRow g3 [.slice kp5 cd0.length kc5, .int .u16 (en : Int), .slice none 0 0, .slice none 0 0].toArray = yz at *
                            go_wp2
                            go_meet
                            case rel => exact ⟨g3, _, rfl, HDX.out⟩
                          refine AllReadyH.cons rfl (fun K hK => ?_) AllReadyH.nil
                          go_simp
                          have kk : Below q1.heap.size q1 (q1.alloc (.cells #[.slice none 0 0, .int .u16 0, .slice none 0 0, .slice none 0 0] 27)) := (Below.refl _ _).alloc (Nat.le_refl _) _
                          have hz : (q1.alloc (.cells #[.slice none 0 0, .int .u16 0, .slice none 0 0, .slice none 0 0] 27)).heap[q1.heap.size]? = some (.cells zCt.toArray 27 (0, 0)) := heap_alloc_new q1 _
                          generalize q1.alloc (.cells #[.slice none 0 0, .int .u16 0, .slice none 0 0, .slice none 0 0] 27) = q7 at *
                          obtain ⟨g3, hbn⟩ : ∃ bn, q1.heap.size = bn := ⟨_, rfl⟩
                          have HBq7 := hid (HBq1.out.trans (kk.mono HBq1.out.size))
                          have HRq7 := hid (row_kt HRq1.out (T := 80) (by decide) (KT.below kk))
                          have HGq7 := hid (And.intro (show q7.heap[g3]? = some (.cells zCt.toArray 27 (0, 0)) by rw [← hbn]; exact hz) (show wc.heap.size ≤ g3 by rw [← hbn]; exact HBq1.out.size))
                          rw [hbn]
                          refine hK.out _ _ (HMK.out _ HBq7.out) (fun hHeld => ?_)
                          clear hK K hbn hz kk
                          try simp only [Act.put, List.getElem_toArray, List.getElem_cons_zero, List.getElem_cons_succ, List.setIfInBounds_toArray, List.set_cons_zero, List.set_cons_succ]
                          refine wpAnyH_ready (rs := [5]) (by kernel_rfl) (by simp) ?_
                          refine AllReadyH.cons rfl (fun K hK => ?_) AllReadyH.nil
                          rw [if_pos (by rfl)]
                          refine wp_append_bytes q7 (.tmp 126) (.tmp 130) rfl wc.heap.size _ [] (by simp [Act.eval]) HRq7.out _ cd0 (by simp [Act.eval]) (HS0.out.below HBq7.out) (by simp only [List.length_nil]; omega) HBq7.out.size (fun v5 q8 hr5 hg5 => ?_)
                          rw [List.nil_append] at hr5
                          obtain ⟨kp5, kc5, hv5, _⟩ := hr5.sl.ex
                          subst hv5
                          have HBq8 := hid (hg5.belowAll (fun g e => (HRq7.out.lt g e).1) HBq7.out (Nat.le_refl _))
                          have HRq8 := hid hr5
                          have HGq8 := hid (And.intro (app_keep HRq7.out HGq7.out.1 (by decide) hg5) HGq7.out.2)
                          refine hK.out _ _ (HMK.out _ HBq8.out) (fun hHeld => ?_)
                          clear hK K hr5 hg5
                          try simp only [Act.put, List.getElem_toArray, List.getElem_cons_zero, List.getElem_cons_succ, List.setIfInBounds_toArray, List.set_cons_zero, List.set_cons_succ]
                          refine wpAnyH_ready (rs := [8]) (by kernel_rfl) (by simp) ?_
                          refine AllReadyH.cons rfl (fun K hK => ?_) AllReadyH.nil
                          go_simp
                          refine (HLW.out q8 HBq8.out).mono ?_
                          rintro e wx ⟨rfl, hwx⟩
                          dsimp only
                          rw [hwx]
                          refine hK.out _ _ (HMK.out _ HBq8.out) (fun hHeld => ?_)
                          clear hK K hwx wx
                          try simp only [Act.put, List.getElem_toArray, List.getElem_cons_zero, List.getElem_cons_succ, List.setIfInBounds_toArray, List.set_cons_zero, List.set_cons_succ]
                          refine wpAnyH_take (i := 9) (v := ?_) rfl (by kernel_rfl) (by kernel_rfl) (by kernel_rfl) (fun c a w h => h) (Or.inl ⟨by rfl, ?_⟩) hHeld ?_
                          rotate_left
                          · (intro w hSw; (try dsimp only at hSw); go_simp; try with_reducible rfl)
                          simp only [Act.put, List.getElem_toArray, List.getElem_cons_zero, List.getElem_cons_succ, List.setIfInBounds_toArray, List.set_cons_zero, List.set_cons_succ]
                          refine wpAnyH_take (i := 10) (v := ?_) rfl (by kernel_rfl) (by kernel_rfl) (by kernel_rfl) (fun c a w h => h) (Or.inl ⟨by rfl, ?_⟩) hHeld ?_
                          rotate_left
                          · (intro w hSw; (try dsimp only at hSw); go_simp; try with_reducible rfl)
                          simp only [Act.put, List.getElem_toArray, List.getElem_cons_zero, List.getElem_cons_succ, List.setIfInBounds_toArray, List.set_cons_zero, List.set_cons_succ]
                          refine wpAnyH_ready (rs := [12]) (by kernel_rfl) (by simp) ?_
                          refine AllReadyH.cons rfl (fun K hK => ?_) AllReadyH.nil
                          rw [if_pos (by rfl)]
                          refine wp_store_row 27 _ _ rfl g3 [.slice kp5 cd0.length kc5, .int .u16 (en : Int), .slice none 0 0, .slice none 0 0].toArray (by simp [Act.eval]) (by simp [Act.eval]) 27 zCt.toArray HGq8.out.1 (by kernel_rfl) (by rfl) (by simp [Value.oneCell']) ?_
                          have HDX := hid (DX.make (w := w) (lt_of HZd.out) (HB2.out.1.trans (HBq8.out.mono HB2.out.1.size)) ((HBq8.out.block _ (lt_of HB2.out.2)).trans HB2.out.2) (HX2.out.below HBq8.out) HGq8.out.1 (Nat.le_trans HX2.out.bel.size HGq8.out.2) (en := en) (own_lo HRq8.out HX2.out.bel.size))
                          refine hK.out _ _ ((HDX.out.sy.cell 0 x0 HX0.out.1).2.1.trans HX0.out.2) (fun hHeld => ?_)
                          clear hK K hHeld
                          try simp only [Act.put, List.getElem_toArray, List.getElem_cons_zero, List.getElem_cons_succ, List.setIfInBounds_toArray, List.set_cons_zero, List.set_cons_succ]
                          refine wpAnyH_done (by kernel_rfl) ?_ _
                          generalize q8.setRow g3 [.slice kp5 cd0.length kc5, .int .u16 (en : Int), .slice none 0 0, .slice none 0 0].toArray = yz at *
                          go_wp2
                          go_meet
                          case rel => exact ⟨g3, _, rfl, HDX.out⟩
                        refine AllReadyH.cons rfl (fun K hK => ?_) AllReadyH.nil
                        go_simp
                        have kk : Below q0.heap.size q0 (q0.alloc (.cells #[.slice none 0 0, .int .u16 0, .slice none 0 0, .slice none 0 0] 27)) := (Below.refl _ _).alloc (Nat.le_refl _) _
                        have hz : (q0.alloc (.cells #[.slice none 0 0, .int .u16 0, .slice none 0 0, .slice none 0 0] 27)).heap[q0.heap.size]? = some (.cells zCt.toArray 27 (0, 0)) := heap_alloc_new q0 _
                        generalize q0.alloc (.cells #[.slice none 0 0, .int .u16 0, .slice none 0 0, .slice none 0 0] 27) = q10 at *
                        obtain ⟨g3, hbn⟩ : ∃ bn, q0.heap.size = bn := ⟨_, rfl⟩
                        have HBq10 := hid (HBq0.out.trans (kk.mono HBq0.out.size))
                        have HGq10 := hid (And.intro (show q10.heap[g3]? = some (.cells zCt.toArray 27 (0, 0)) by rw [← hbn]; exact hz) (show wc.heap.size ≤ g3 by rw [← hbn]; exact HBq0.out.size))
                        rw [hbn]
                        refine hK.out _ _ (HMK.out _ HBq10.out) (fun hHeld => ?_)
                        clear hK K hbn hz kk
                        try simp only [Act.put, List.getElem_toArray, List.getElem_cons_zero, List.getElem_cons_succ, List.setIfInBounds_toArray, List.set_cons_zero, List.set_cons_succ]
                        refine wpAnyH_ready (rs := [0]) (by kernel_rfl) (by simp) ?_
                        refine AllReadyH.cons rfl (fun K hK => ?_) AllReadyH.nil
                        go_simp
                        have kk : Below q10.heap.size q10 (q10.alloc (.cells #[] 5)) := (Below.refl _ _).alloc (Nat.le_refl _) _
                        have ow := own_z q10 5 1
                        generalize q10.alloc (.cells #[] 5) = q11 at *
                        obtain ⟨g0, hbn⟩ : ∃ bn, q10.heap.size = bn := ⟨_, rfl⟩
                        have HBq11 := hid (HBq10.out.trans (kk.mono HBq10.out.size))
                        have HGq11 := hid (And.intro ((kk.block _ (lt_of HGq10.out.1)).trans HGq10.out.1) HGq10.out.2)
                        have HRq11 := hid (show Row q11 wc.heap.size (.slice (some ⟨g0, 0, none⟩) 0 0) [] by rw [← hbn]; exact own_lo ow HBq10.out.size)
                        rw [hbn]
                        refine hK.out _ _ (HMK.out _ HBq11.out) (fun hHeld => ?_)
                        clear hK K hbn ow kk
                        try simp only [Act.put, List.getElem_toArray, List.getElem_cons_zero, List.getElem_cons_succ, List.setIfInBounds_toArray, List.set_cons_zero, List.set_cons_succ]
                        refine wpAnyH_ready (rs := [5]) (by kernel_rfl) (by simp) ?_
                        refine AllReadyH.cons rfl (fun K hK => ?_) AllReadyH.nil
                        rw [if_pos (by rfl)]
                        refine wp_append_bytes q11 (.tmp 126) (.tmp 130) rfl wc.heap.size _ [] (by simp [Act.eval]) HRq11.out _ cd0 (by simp [Act.eval]) (HS0.out.below HBq11.out) (by simp only [List.length_nil]; omega) HBq11.out.size (fun v5 q12 hr5 hg5 => ?_)
                        rw [List.nil_append] at hr5
                        obtain ⟨kp5, kc5, hv5, _⟩ := hr5.sl.ex
                        subst hv5
                        have HBq12 := hid (hg5.belowAll (fun g e => (HRq11.out.lt g e).1) HBq11.out (Nat.le_refl _))
                        have HRq12 := hid hr5
                        have HGq12 := hid (And.intro (app_keep HRq11.out HGq11.out.1 (by decide) hg5) HGq11.out.2)
                        refine hK.out _ _ (HMK.out _ HBq12.out) (fun hHeld => ?_)
                        clear hK K hr5 hg5
                        try simp only [Act.put, List.getElem_toArray, List.getElem_cons_zero, List.getElem_cons_succ, List.setIfInBounds_toArray, List.set_cons_zero, List.set_cons_succ]
                        refine wpAnyH_ready (rs := [8]) (by kernel_rfl) (by simp) ?_
                        refine AllReadyH.cons rfl (fun K hK => ?_) AllReadyH.nil
                        go_simp
                        refine (HLW.out q12 HBq12.out).mono ?_
                        rintro e wx ⟨rfl, hwx⟩
                        dsimp only
                        rw [hwx]
                        refine hK.out _ _ (HMK.out _ HBq12.out) (fun hHeld => ?_)
                        clear hK K hwx wx
                        try simp only [Act.put, List.getElem_toArray, List.getElem_cons_zero, List.getElem_cons_succ, List.setIfInBounds_toArray, List.set_cons_zero, List.set_cons_succ]
                        refine wpAnyH_take (i := 9) (v := ?_) rfl (by kernel_rfl) (by kernel_rfl) (by kernel_rfl) (fun c a w h => h) (Or.inl ⟨by rfl, ?_⟩) hHeld ?_
                        rotate_left
                        · (intro w hSw; (try dsimp only at hSw); go_simp; try with_reducible rfl)
                        simp only [Act.put, List.getElem_toArray, List.getElem_cons_zero, List.getElem_cons_succ, List.setIfInBounds_toArray, List.set_cons_zero, List.set_cons_succ]
                        refine wpAnyH_take (i := 10) (v := ?_) rfl (by kernel_rfl) (by kernel_rfl) (by kernel_rfl) (fun c a w h => h) (Or.inl ⟨by rfl, ?_⟩) hHeld ?_
                        rotate_left
                        · (intro w hSw; (try dsimp only at hSw); go_simp; try with_reducible rfl)
                        simp only [Act.put, List.getElem_toArray, List.getElem_cons_zero, List.getElem_cons_succ, List.setIfInBounds_toArray, List.set_cons_zero, List.set_cons_succ]
                        refine wpAnyH_ready (rs := [12]) (by kernel_rfl) (by simp) ?_
                        refine AllReadyH.cons rfl (fun K hK => ?_) AllReadyH.nil
                        rw [if_pos (by rfl)]
                        refine wp_store_row 27 _ _ rfl g3 [.slice kp5 cd0.length kc5, .int .u16 (en : Int), .slice none 0 0, .slice none 0 0].toArray (by simp [Act.eval]) (by simp [Act.eval]) 27 zCt.toArray HGq12.out.1 (by kernel_rfl) (by rfl) (by simp [Value.oneCell']) ?_
                        have HDX := hid (DX.make (w := w) (lt_of HZd.out) (HB2.out.1.trans (HBq12.out.mono HB2.out.1.size)) ((HBq12.out.block _ (lt_of HB2.out.2)).trans HB2.out.2) (HX2.out.below HBq12.out) HGq12.out.1 (Nat.le_trans HX2.out.bel.size HGq12.out.2) (en := en) (own_lo HRq12.out HX2.out.bel.size))
                        refine hK.out _ _ ((HDX.out.sy.cell 0 x0 HX0.out.1).2.1.trans HX0.out.2) (fun hHeld => ?_)
                        clear hK K hHeld
                        try simp only [Act.put, List.getElem_toArray, List.getElem_cons_zero, List.getElem_cons_succ, List.setIfInBounds_toArray, List.set_cons_zero, List.set_cons_succ]
                        refine wpAnyH_done (by kernel_rfl) ?_ _
                        generalize q12.setRow g3 [.slice kp5 cd0.length kc5, .int .u16 (en : Int), .slice none 0 0, .slice none 0 0].toArray = yz at *
                        go_wp2
                        go_meet
                        case rel => exact ⟨g3, _, rfl, HDX.out⟩
                    case rest =>
                      as_aux_lemma =>
                        clear s22 HMK HLW HS0 HBq0 wen wen2 i0m HX2
                        obtain ⟨g, kv, rfl, hD⟩ := hcut
                        have HD := hid hD
                        clear hD
                        obtain ⟨x1, hx1, hx1s⟩ := sec_at HP.out (show 1 < m by omega)
                        obtain ⟨_, c12, s12, r12⟩ := HD.out.sy.cell 1 x1 hx1
                        rw [hx1s, ← (s0_at (b := b) hmt.1).2] at s12 r12
                        have hfl : (s1 (secsR b m m)).length ≤ 524288 := by
                          rw [(s0_at (b := b) hmt.1).2]
                          unfold secR body
                          simp only [List.length_take, List.length_drop]
                          omega
                        obtain ⟨p1, cc1, hp1, _⟩ := s12.ex
                        have hfc : (s1 (secsR b m m)).length ≤ cc1 := by
                          rw [hp1] at s12
                          rcases s12 with ⟨e0, e1⟩ | ⟨_, _, e0, e1, _⟩
                          · rw [e1]; exact Nat.zero_le _
                          · cases e0; exact e1
                        have HX1 := hid (And.intro hx1 (And.intro hx1s hp1))
                        obtain ⟨fl, hfl0⟩ : ∃ fl, s1 (secsR b m m) = fl := ⟨_, rfl⟩
                        rw [hfl0] at hfl hfc
                        have HF1 : Hid (∀ X, Sy y2 X (.slice (some ⟨gv, 0, none⟩) m cv) prs → X.cell? ⟨gv, 5, none⟩ = some (.slice p1 fl.length cc1) ∧ Sl X (.slice p1 fl.length cc1) fl) := hid fun X hX => by
                          obtain ⟨_, a2, a3, _⟩ := hX.cell 1 x1 HX1.out.1
                          rw [HX1.out.2.1, ← (s0_at (b := b) hmt.1).2, hfl0] at a3
                          rw [HX1.out.2.2, hfl0] at a2 a3
                          exact ⟨a2, a3⟩
                        have HFL := hid hfl0
                        have i1m : 1 < m := by omega
                        clear hx1 hx1s c12 s12 r12 hp1 hfl0 HX1
                        go_wp2_with fail
                        go_loopw [12, 13] (fun i _ wr => ∃ (k : Nat) (eo : Value), 6 * k ≤ fl.length ∧ i = .int .i64 ((6 * k : Nat) : Int) ∧ DX w y2 wr (.slice (some ⟨gv, 0, none⟩) m cv) prs cd0 kv en eo (.slice none 0 0) g ∧ wr.ownsRow y2.heap.size 80 3 eo k (t3 ((effD k fl).map encE))) (fun i _ _ => fl.length + 6 - (intOf i).toNat)
                        case atStart => exact ⟨0, .slice none 0 0, by omega, rfl, HD.out, World.ownsRow_nil _ _ _ _⟩
                        case round =>
                          as_aux_lemma =>
                            clear HD
                            obtain ⟨k, eo, hk, rfl, hD, hE⟩ := hrel
                            obtain ⟨c15, hs1⟩ := HF1.out _ hD.sy
                            have wk6 : IntKind.i64.wrap (((6 * k : Nat) : Int) + 6) = ((6 * k + 6 : Nat) : Int) := by rw [IntWalk.i64_in _ (by omega)]; omega
                            have HD := hid hD
                            have HE := hid hE
                            have HS1 := hid hs1
                            clear hD hE hs1
                            by_cases hlt : 6 * k + 6 ≤ fl.length
                            case neg =>
                              have d1 : decide (((6 * k + 6 : Nat) : Int) ≤ (fl.length : Int)) = false := decide_eq_false (by omega)
                              go_upto_region 28 with fail
                              have hk6 : fl.length / 6 = k := by omega
                              have HK6 := hid hk6
                              obtain ⟨pe, ce, heo⟩ := own_form HE.out
                              subst heo
                              obtain ⟨kp, kc, hkv⟩ := own_form HD.out.code
                              subst hkv
                              clear hk6 c15 wk6 d1 hlt HS1
                              go_wp2_with fail
                              go_loopw [14] (fun i wx => ∃ (J q : Nat) (bo : Value) (pb : List (Bk × Value)), J = q + 2 ∧ J ≤ m ∧ i = .int .i64 (J : Int) ∧ DX w y2 wx (.slice (some ⟨gv, 0, none⟩) m cv) prs cd0 (.slice kp cd0.length kc) en (.slice pe k ce) bo g ∧ wx.ownsRow y2.heap.size 80 3 (.slice pe k ce) k (t3 ((effD k fl).map encE)) ∧ BR y2.heap.size wx (.slice kp cd0.length kc) bo (bks (((secsR b m m).drop 2).take q)) pb) (fun i _ => m - (intOf i).toNat)
                              case atStart => exact ⟨2, 0, .slice none 0 0, [], rfl, by omega, rfl, HD.out, HE.out, (by rw [List.take_zero]; exact BR.nil _ _ _)⟩
                              case round =>
                                as_aux_lemma =>
                                  clear HD HE
                                  obtain ⟨J, q, bo, pb, hJq, hJm, rfl, hD, hE, hB⟩ := hrel
                                  have hpl : pb.length = q := by
                                    have := congrArg List.length hB.map
                                    rw [List.length_map] at this
                                    rw [this]
                                    unfold bks
                                    rw [List.length_map, List.length_take, List.length_drop, secsR_len]
                                    omega
                                  obtain ⟨po, co, hbo⟩ := own_form hB.row
                                  rw [hpl] at hbo
                                  subst hbo
                                  have HD := hid hD
                                  have HE := hid hE
                                  have HB := hid hB
                                  have HPL := hid hpl
                                  clear hD hE hB hpl
                                  by_cases hlt : J < m
                                  case neg =>
                                    obtain rfl : J = m := by omega
                                    have d1 : decide ((J : Int) < (J : Int)) = false := decide_eq_false (by omega)
                                    obtain ⟨c15, _⟩ := HF1.out _ HD.out.sy
                                    have htk : ((secsR b J J).drop 2).take q = (secsR b J J).drop 2 := List.take_of_length_le (by rw [List.length_drop, secsR_len]; omega)
                                    have hoc : OwC wr y2.heap.size (.agg #[.slice kp cd0.length kc, .int .u16 (en : Int), .slice pe k ce, .slice po q co]) (cartOf en (secsR b J J)) (.slice kp cd0.length kc) (.slice pe k ce) (.slice po q co) pb := by
                                      have h1 := HB.out
                                      rw [htk] at h1
                                      have h2 := HE.out
                                      have h3 := HD.out
                                      rw [← HCD.out] at h3
                                      have := h3.owc (l := secsR b J J) (pb := pb) (by rw [HFL.out, HK6.out]; exact h2) h1.row h1.map h1.dat (by rw [HCD.out]; exact h1.nd)
                                      rw [HCD.out] at this
                                      exact this
                                    have hin := cart_ints b J en (by omega) hmt.1 hmt.2.1 hen3
                                    obtain ⟨ep', ec', bp', bc', hic⟩ := hoc.isC hin
                                    have kC := rcheck_any _ _ _ _ _ _ _ wr hic
                                    have hso : secsOk (secsR b J J) = (decide (fl.length % 6 = 0) && may (cartOf en (secsR b J J))) := by
                                      rw [secs_may en _ (by rw [secsR_len]; exact hmt.1) ((rt_rows _ (by rw [secsR_len]; exact hmt.1)).symm.trans HRT.out), HFL.out]
                                    have hdc := d73 HM.out HSO.out HTT.out
                                    rw [hso, HEN.out] at hdc
                                    obtain ⟨my, hmy⟩ : ∃ my, may (cartOf en (secsR b J J)) = my := ⟨_, rfl⟩
                                    rw [hmy] at kC hdc
                                    obtain ⟨q6, hq6⟩ : ∃ q6, fl.length % 6 = q6 := ⟨_, rfl⟩
                                    rw [hq6] at hdc
                                    have e0 : Int.tmod (fl.length : Int) 6 = (q6 : Int) := by rw [Int.tmod_eq_emod_of_nonneg (by omega)]; omega
                                    have HOW := hid hoc
                                    have HDC := hid hdc
                                    clear hoc hin hic hso hdc hmy hq6 htk hJq
                                    go_upto_region 32 with fail
                                    clear d1
                                    go_cut [207] (fun s wz => s = .bool (!(decide (q6 = 0) && my)) ∧ Below wr.heap.size wr wz)
                                    case first =>
                                      as_aux_lemma =>
                                        by_cases hz6 : q6 = 0
                                        case neg =>
                                          have e1 : ((q6 : Int) != 0) = true := by simp; omega
                                          have e2 : ¬ (q6 : Int) = 0 := by omega
                                          have e3 : ¬ q6 = 0 := hz6
                                          clear kC
                                          go_wp2
                                          go_meet
                                          case rel => exact ⟨by simp [hz6], Below.refl _ _⟩
                                        subst hz6
                                        have l0 := cell_of wr g 0 _ 27 _ HD.out.cg rfl
                                        have l1 := cell_of wr g 1 _ 27 _ HD.out.cg rfl
                                        have l2 := cell_of wr g 2 _ 27 _ HD.out.cg rfl
                                        have l3 := cell_of wr g 3 _ 27 _ HD.out.cg rfl
                                        go_wp2_with fail
                                        refine kC.mono ?_
                                        rintro e wx ⟨rfl, hbx⟩
                                        have HBX := hid hbx
                                        clear hbx kC l0 l1 l2 l3 c15
                                        dsimp only
                                        cases my
                                        · simp only [Bool.false_eq_true, if_false]
                                          go_wp2
                                          go_meet
                                          case rel => exact ⟨by simp, HBX.out⟩
                                        · simp only [if_true]
                                          go_wp2
                                          go_meet
                                          case rel => exact ⟨by simp, HBX.out⟩
                                    case rest =>
                                      as_aux_lemma =>
                                        clear kC e0 c15
                                        obtain ⟨rfl, hbz⟩ := hcut
                                        have HDc := hid (HD.out.next hbz)
                                        have HOC := hid (HOW.out.below hbz)
                                        clear hbz HD HE HB HOW
                                        by_cases hgo : (decide (q6 = 0) && my) = true
                                        case neg =>
                                          have hgo2 : (decide (q6 = 0) && my) = false := by simpa using hgo
                                          rw [hgo2]
                                          have h73 : decB b = (73, ct0) := HDC.out.trans (if_neg hgo)
                                          simp only [Bool.not_false]
                                          go_upto_region 33 with fail
                                          have z1 := HDc.out.z
                                          go_wp2_with (refine wpList_store_row rfl 27 _ _ rfl w.heap.size #[.slice none 0 0, .int .u16 0, .slice none 0 0, .slice none 0 0] rfl rfl 27 #[.slice none 0 0, .int .u16 0, .slice none 0 0, .slice none 0 0] z1 (by kernel_rfl) (by rfl) (by simp [Value.oneCell']) ?_)
                                          have hg := setRow_heap _ w.heap.size _ #[.slice none 0 0, .int .u16 0, .slice none 0 0, .slice none 0 0] _ _ z1
                                          have hbf := row_below HDc.out.bel #[.slice none 0 0, .int .u16 0, .slice none 0 0, .slice none 0 0]
                                          generalize World.setRow _ w.heap.size #[.slice none 0 0, .int .u16 0, .slice none 0 0, .slice none 0 0] = z6 at *
                                          have r0 := cell_of z6 w.heap.size 0 [.slice none 0 0, .int .u16 0, .slice none 0 0, .slice none 0 0] 27 _ hg rfl
                                          have r1 := cell_of z6 w.heap.size 1 [.slice none 0 0, .int .u16 0, .slice none 0 0, .slice none 0 0] 27 _ hg rfl
                                          have r2 := cell_of z6 w.heap.size 2 [.slice none 0 0, .int .u16 0, .slice none 0 0, .slice none 0 0] 27 _ hg rfl
                                          have r3 := cell_of z6 w.heap.size 3 [.slice none 0 0, .int .u16 0, .slice none 0 0, .slice none 0 0] 27 _ hg rfl
                                          exact bodyPost_ret (v := .tuple #[.agg #[.slice none 0 0, .int .u16 0, .slice none 0 0, .slice none 0 0], .int .i64 73]) (by simp [results, Tryd.results20, go_sem, r0, r1, r2, r3]) rfl (dec_err' (k := 73) h73 hbf)
                                        rw [hgo]
                                        have HOK := hid (show decB b = (0, cartOf en (secsR b J J)) from HDC.out.trans (if_pos hgo))
                                        simp only [Bool.not_true]
                                        go_upto_region 34 with fail
                                        have z1 := HDc.out.z
                                        have l0 := cell_of wc g 0 _ 27 _ HDc.out.cg rfl
                                        have l1 := cell_of wc g 1 _ 27 _ HDc.out.cg rfl
                                        have l2 := cell_of wc g 2 _ 27 _ HDc.out.cg rfl
                                        have l3 := cell_of wc g 3 _ 27 _ HDc.out.cg rfl
                                        go_wp2_with (refine wpList_store_row rfl 27 _ _ rfl w.heap.size [.slice kp cd0.length kc, .int .u16 (en : Int), .slice pe k ce, .slice po q co].toArray rfl rfl 27 #[.slice none 0 0, .int .u16 0, .slice none 0 0, .slice none 0 0] z1 (by kernel_rfl) (by rfl) (by simp [Value.oneCell']) ?_)
                                        clear l0 l1 l2 l3
                                        have hg := setRow_heap _ w.heap.size _ [.slice kp cd0.length kc, .int .u16 (en : Int), .slice pe k ce, .slice po q co].toArray _ _ z1
                                        have hbf := row_below HDc.out.bel [.slice kp cd0.length kc, .int .u16 (en : Int), .slice pe k ce, .slice po q co].toArray
                                        have hoc := (HOC.out.kept (W' := wc.setRow w.heap.size [.slice kp cd0.length kc, .int .u16 (en : Int), .slice pe k ce, .slice po q co].toArray) fun i h1 _ => setRow_other _ _ i _ (by have := HDc.out.wy; omega)).mono (Nat.le_of_lt HDc.out.wy)
                                        have HR := hid (show DecR w (wc.setRow w.heap.size [.slice kp cd0.length kc, .int .u16 (en : Int), .slice pe k ce, .slice po q co].toArray) b (.returned (.tuple #[.agg #[.slice kp cd0.length kc, .int .u16 (en : Int), .slice pe k ce, .slice po q co], .int .i64 0])) from ⟨⟨_, by rw [HOK.out]; rfl, by rw [HOK.out]; exact ⟨_, _, _, _, hoc⟩⟩, hbf⟩)
                                        clear hoc hbf
                                        generalize World.setRow _ w.heap.size [.slice kp cd0.length kc, .int .u16 (en : Int), .slice pe k ce, .slice po q co].toArray = z6 at *
                                        have r0 := cell_of z6 w.heap.size 0 [.slice kp cd0.length kc, .int .u16 (en : Int), .slice pe k ce, .slice po q co] 27 _ hg rfl
                                        have r1 := cell_of z6 w.heap.size 1 [.slice kp cd0.length kc, .int .u16 (en : Int), .slice pe k ce, .slice po q co] 27 _ hg rfl
                                        have r2 := cell_of z6 w.heap.size 2 [.slice kp cd0.length kc, .int .u16 (en : Int), .slice pe k ce, .slice po q co] 27 _ hg rfl
                                        have r3 := cell_of z6 w.heap.size 3 [.slice kp cd0.length kc, .int .u16 (en : Int), .slice pe k ce, .slice po q co] 27 _ hg rfl
                                        exact bodyPost_ret (v := .tuple #[.agg #[.slice kp cd0.length kc, .int .u16 (en : Int), .slice pe k ce, .slice po q co], .int .i64 0]) (by simp [results, Tryd.results20, go_sem, r0, r1, r2, r3]) rfl HR.out
                                  have d1 : decide ((J : Int) < (m : Int)) = true := decide_eq_true (by omega)
                                  have i1 : (J : Int) < (m : Int) := by omega
                                  obtain ⟨xj, hxj, hxs⟩ := sec_at HP.out hlt
                                  obtain ⟨_, _, sj, rj⟩ := HD.out.sy.cell J xj hxj
                                  obtain ⟨pd, cdd, hpd, _⟩ := sj.ex
                                  have hmk : ∀ X : World, (∃ bx, DX w y2 X (.slice (some ⟨gv, 0, none⟩) m cv) prs cd0 (.slice kp cd0.length kc) en (.slice pe k ce) bx g ∧ bx = .slice po q co) → X.cell? ⟨g, 3, none⟩ = some (.slice po q co) ∧ X.cell? ⟨gv, J * 3 + 1, none⟩ = some (.int .u8 (xj.1.2.1.toNat : Int)) ∧ X.cell? ⟨gv, J * 3 + 2, none⟩ = some (.slice pd xj.1.2.2.length cdd) := fun X ⟨bx, hX, e⟩ => by
                                    subst e
                                    obtain ⟨a1, a2, _, _⟩ := hX.sy.cell J xj hxj
                                    rw [hpd] at a2
                                    exact ⟨cell_of X _ 3 _ 27 _ hX.cg rfl, a1, a2⟩
                                  have hbs := bks_snoc (b := b) (m := m) (j := q) (by omega)
                                  rw [← hJq, ← hxs] at hbs
                                  rw [hpd] at sj
                                  have hnn := u8lt xj.1.2.1
                                  obtain ⟨nn, hn⟩ : ∃ nn, xj.1.2.1.toNat = nn := ⟨_, rfl⟩
                                  obtain ⟨dat, hdat⟩ : ∃ dat, xj.1.2.2 = dat := ⟨_, rfl⟩
                                  rw [hn] at hnn
                                  simp only [hn, hdat] at hmk hbs sj rj
                                  have HMK : Hid (∀ X : World, DX w y2 X (.slice (some ⟨gv, 0, none⟩) m cv) prs cd0 (.slice kp cd0.length kc) en (.slice pe k ce) (.slice po q co) g → (fun wz : World => wz.cell? ⟨g, 3, none⟩ = some (.slice po q co) ∧ wz.cell? ⟨gv, J * 3 + 1, none⟩ = some (.int .u8 (nn : Int)) ∧ wz.cell? ⟨gv, J * 3 + 2, none⟩ = some (.slice pd dat.length cdd)) X) := hid fun X hX => hmk X ⟨_, hX, rfl⟩
                                  have HSD := hid sj
                                  have HBS := hid hbs
                                  have HJq := hid hJq
                                  have hqm : q ≤ 16 := by omega
                                  have wn : IntKind.i64.wrap (nn : Int) = (nn : Int) := IntWalk.i64_in _ (by omega)
                                  have HBz0 := hid (Below.refl wr.heap.size wr).drew
                                  have j3 : J < m := hlt
                                  clear hmk hbs sj hpd hxj hxs hn hdat hJq
                                  go_upto_region 31 with fail
                                  clear d1
                                  refine wp_region_drop [19] (S := (fun wz : World => wz.cell? ⟨g, 3, none⟩ = some (.slice po q co) ∧ wz.cell? ⟨gv, J * 3 + 1, none⟩ = some (.int .u8 (nn : Int)) ∧ wz.cell? ⟨gv, J * 3 + 2, none⟩ = some (.slice pd dat.length cdd))) (by kernel_rfl) (HMK.out _ (HD.out.next HBz0.out)) (fun hHeld => ?_)
                                  generalize wr.drew = z0 at *
                                  refine wpD_take (i := 0) (v := ?_) rfl (by kernel_rfl) (by kernel_rfl) (by kernel_rfl) (by kernel_rfl) (by kernel_rfl) (fun c a w h => h) (Or.inl ⟨by rfl, ?_⟩) hHeld ?_
                                  rotate_left
                                  · (intro w hSw; (try dsimp only at hSw); go_simp; try with_reducible rfl)
                                  simp only [Act.put, List.getElem_toArray, List.getElem_cons_zero, List.getElem_cons_succ, List.setIfInBounds_toArray, List.set_cons_zero, List.set_cons_succ]
                                  refine wpD_take (i := 1) (v := ?_) rfl (by kernel_rfl) (by kernel_rfl) (by kernel_rfl) (by kernel_rfl) (by kernel_rfl) (fun c a w h => h) (Or.inl ⟨by rfl, ?_⟩) hHeld ?_
                                  rotate_left
                                  · (intro w hSw; (try dsimp only at hSw); go_simp; try with_reducible rfl)
                                  simp only [Act.put, List.getElem_toArray, List.getElem_cons_zero, List.getElem_cons_succ, List.setIfInBounds_toArray, List.set_cons_zero, List.set_cons_succ]
                                  refine wpD_take (i := 2) (v := ?_) rfl (by kernel_rfl) (by kernel_rfl) (by kernel_rfl) (by kernel_rfl) (by kernel_rfl) (fun c a w h => h) (Or.inl ⟨by rfl, ?_⟩) hHeld ?_
                                  rotate_left
                                  · (intro w hSw; (try dsimp only at hSw); go_simp; try with_reducible rfl)
                                  simp only [Act.put, List.getElem_toArray, List.getElem_cons_zero, List.getElem_cons_succ, List.setIfInBounds_toArray, List.set_cons_zero, List.set_cons_succ]
                                  refine wpD_take (i := 3) (v := ?_) rfl (by kernel_rfl) (by kernel_rfl) (by kernel_rfl) (by kernel_rfl) (by kernel_rfl) (fun c a w h => h) (Or.inl ⟨by rfl, ?_⟩) hHeld ?_
                                  rotate_left
                                  · (intro w hSw; (try dsimp only at hSw); go_simp; try with_reducible rfl)
                                  simp only [Act.put, List.getElem_toArray, List.getElem_cons_zero, List.getElem_cons_succ, List.setIfInBounds_toArray, List.set_cons_zero, List.set_cons_succ]
                                  refine wpD_take (i := 4) (v := ?_) rfl (by kernel_rfl) (by kernel_rfl) (by kernel_rfl) (by kernel_rfl) (by kernel_rfl) (fun c a w h => h) (Or.inl ⟨by rfl, ?_⟩) hHeld ?_
                                  rotate_left
                                  · (intro w hSw; (try dsimp only at hSw); go_simp; try with_reducible rfl)
                                  simp only [Act.put, List.getElem_toArray, List.getElem_cons_zero, List.getElem_cons_succ, List.setIfInBounds_toArray, List.set_cons_zero, List.set_cons_succ]
                                  refine wpD_take (i := 5) (v := ?_) rfl (by kernel_rfl) (by kernel_rfl) (by kernel_rfl) (by kernel_rfl) (by kernel_rfl) (fun c a w h => h) (Or.inl ⟨by rfl, ?_⟩) hHeld ?_
                                  rotate_left
                                  · (intro w hSw; (try dsimp only at hSw); go_simp; try with_reducible rfl)
                                  simp only [Act.put, List.getElem_toArray, List.getElem_cons_zero, List.getElem_cons_succ, List.setIfInBounds_toArray, List.set_cons_zero, List.set_cons_succ]
                                  refine wpD_take (i := 6) (v := ?_) rfl (by kernel_rfl) (by kernel_rfl) (by kernel_rfl) (by kernel_rfl) (by kernel_rfl) (fun c a w h => h) (Or.inl ⟨by rfl, ?_⟩) hHeld ?_
                                  rotate_left
                                  · (intro w hSw; (try dsimp only at hSw); go_simp; try with_reducible rfl)
                                  simp only [Act.put, List.getElem_toArray, List.getElem_cons_zero, List.getElem_cons_succ, List.setIfInBounds_toArray, List.set_cons_zero, List.set_cons_succ]
                                  refine wpD_take (i := 7) (v := ?_) rfl (by kernel_rfl) (by kernel_rfl) (by kernel_rfl) (by kernel_rfl) (by kernel_rfl) (fun c a w h => h) (Or.inl ⟨by rfl, ?_⟩) hHeld ?_
                                  rotate_left
                                  · (intro w hSw; (try dsimp only at hSw); go_simp; try with_reducible rfl)
                                  simp only [Act.put, List.getElem_toArray, List.getElem_cons_zero, List.getElem_cons_succ, List.setIfInBounds_toArray, List.set_cons_zero, List.set_cons_succ]
                                  refine wpD_take (i := 9) (v := ?_) rfl (by kernel_rfl) (by kernel_rfl) (by kernel_rfl) (by kernel_rfl) (by kernel_rfl) (fun c a w h => h) (Or.inl ⟨by rfl, ?_⟩) hHeld ?_
                                  rotate_left
                                  · (intro w hSw; (try dsimp only at hSw); go_simp; try with_reducible rfl)
                                  simp only [Act.put, List.getElem_toArray, List.getElem_cons_zero, List.getElem_cons_succ, List.setIfInBounds_toArray, List.set_cons_zero, List.set_cons_succ]
                                  refine wpD_take (i := 10) (v := ?_) rfl (by kernel_rfl) (by kernel_rfl) (by kernel_rfl) (by kernel_rfl) (by kernel_rfl) (fun c a w h => h) (Or.inl ⟨by rfl, ?_⟩) hHeld ?_
                                  rotate_left
                                  · (intro w hSw; (try dsimp only at hSw); go_simp; try with_reducible rfl)
                                  simp only [Act.put, List.getElem_toArray, List.getElem_cons_zero, List.getElem_cons_succ, List.setIfInBounds_toArray, List.set_cons_zero, List.set_cons_succ]
                                  refine wpD_take (i := 11) (v := ?_) rfl (by kernel_rfl) (by kernel_rfl) (by kernel_rfl) (by kernel_rfl) (by kernel_rfl) (fun c a w h => h) (Or.inl ⟨by rfl, ?_⟩) hHeld ?_
                                  rotate_left
                                  · (intro w hSw; (try dsimp only at hSw); go_simp; try with_reducible rfl)
                                  simp only [Act.put, List.getElem_toArray, List.getElem_cons_zero, List.getElem_cons_succ, List.setIfInBounds_toArray, List.set_cons_zero, List.set_cons_succ]
                                  refine wpD_take (i := 12) (v := ?_) rfl (by kernel_rfl) (by kernel_rfl) (by kernel_rfl) (by kernel_rfl) (by kernel_rfl) (fun c a w h => h) (Or.inl ⟨by rfl, ?_⟩) hHeld ?_
                                  rotate_left
                                  · (intro w hSw; (try dsimp only at hSw); go_simp; try with_reducible rfl)
                                  simp only [Act.put, List.getElem_toArray, List.getElem_cons_zero, List.getElem_cons_succ, List.setIfInBounds_toArray, List.set_cons_zero, List.set_cons_succ]
                                  refine wpD_take (i := 13) (v := ?_) rfl (by kernel_rfl) (by kernel_rfl) (by kernel_rfl) (by kernel_rfl) (by kernel_rfl) (fun c a w h => h) (Or.inl ⟨by rfl, ?_⟩) hHeld ?_
                                  rotate_left
                                  · (intro w hSw; (try dsimp only at hSw); go_simp; try with_reducible rfl)
                                  simp only [Act.put, List.getElem_toArray, List.getElem_cons_zero, List.getElem_cons_succ, List.setIfInBounds_toArray, List.set_cons_zero, List.set_cons_succ]
                                  refine wpD_ready (rs := [8]) (by kernel_rfl) (by simp) ?_
                                  refine AllD.cons rfl (fun K hK => ?_) AllD.nil
                                  go_simp
                                  have kk : Below z0.heap.size z0 (z0.alloc (.cells #[] 5)) := (Below.refl _ _).alloc (Nat.le_refl _) _
                                  have ow := own_z z0 5 1
                                  generalize z0.alloc (.cells #[] 5) = z1 at *
                                  obtain ⟨g0, hbn⟩ : ∃ bn, z0.heap.size = bn := ⟨_, rfl⟩
                                  have HBz1 := hid (HBz0.out.trans (kk.mono HBz0.out.size))
                                  have HRz1 := hid (show Row z1 wr.heap.size (.slice (some ⟨g0, 0, none⟩) 0 0) [] by rw [← hbn]; exact own_lo ow HBz0.out.size)
                                  rw [hbn]
                                  refine hK.out _ _ (HMK.out _ (HD.out.next HBz1.out)) (fun hHeld => ?_)
                                  clear hK K hbn ow kk
                                  try simp only [Act.put, List.getElem_toArray, List.getElem_cons_zero, List.getElem_cons_succ, List.setIfInBounds_toArray, List.set_cons_zero, List.set_cons_succ]
                                  refine wpD_ready (rs := [14]) (by kernel_rfl) (by simp) ?_
                                  refine AllD.cons rfl (fun K hK => ?_) AllD.nil
                                  rw [if_pos (by rfl)]
                                  refine wp_append_bytes z1 (.tmp 185) (.tmp 190) rfl wr.heap.size _ [] (by simp [Act.eval]) HRz1.out _ dat (by simp [Act.eval]) (HSD.out.below HBz1.out) (by simp only [List.length_nil]; omega) HBz1.out.size (fun v5 z2 hr5 hg5 => ?_)
                                  rw [List.nil_append] at hr5
                                  obtain ⟨kp5, kc5, hv5, _⟩ := hr5.sl.ex
                                  subst hv5
                                  have HBz2 := hid (hg5.belowAll (fun g e => (HRz1.out.lt g e).1) HBz1.out (Nat.le_refl _))
                                  have HRz2 := hid hr5
                                  refine hK.out _ _ (HMK.out _ (HD.out.next HBz2.out)) (fun hHeld => ?_)
                                  clear hK K hr5 hg5
                                  try simp only [Act.put, List.getElem_toArray, List.getElem_cons_zero, List.getElem_cons_succ, List.setIfInBounds_toArray, List.set_cons_zero, List.set_cons_succ]
                                  refine wpD_take (i := 15) (v := ?_) rfl (by kernel_rfl) (by kernel_rfl) (by kernel_rfl) (by kernel_rfl) (by kernel_rfl) (fun c a w h => h) (Or.inl ⟨by rfl, ?_⟩) hHeld ?_
                                  rotate_left
                                  · (intro w hSw; (try dsimp only at hSw); go_simp; try with_reducible rfl)
                                  simp only [Act.put, List.getElem_toArray, List.getElem_cons_zero, List.getElem_cons_succ, List.setIfInBounds_toArray, List.set_cons_zero, List.set_cons_succ]
                                  refine wpD_ready (rs := [16]) (by kernel_rfl) (by simp) ?_
                                  refine AllD.cons rfl (fun K hK => ?_) AllD.nil
                                  go_simp
                                  have kk : Below z2.heap.size z2 (z2.alloc (.cells #[.int .i64 (nn : Int), .slice kp5 dat.length kc5] 82)) := (Below.refl _ _).alloc (Nat.le_refl _) _
                                  have hz : (z2.alloc (.cells #[.int .i64 (nn : Int), .slice kp5 dat.length kc5] 82)).heap[z2.heap.size]? = some (.cells [.int .i64 (nn : Int), .slice kp5 dat.length kc5].toArray 82 (0, 0)) := heap_alloc_new z2 _
                                  generalize z2.alloc (.cells #[.int .i64 (nn : Int), .slice kp5 dat.length kc5] 82) = z3 at *
                                  obtain ⟨gn, hbn⟩ : ∃ bn, z2.heap.size = bn := ⟨_, rfl⟩
                                  have HBz3 := hid (HBz2.out.trans (kk.mono HBz2.out.size))
                                  have HRz3 := hid (row_kt HRz2.out (T := 27) (by decide) (KT.below kk))
                                  have hcs : Cs z3 (.slice (some ⟨gn, 0, none⟩) 1 1) 2 1 [.int .i64 (nn : Int), .slice kp5 dat.length kc5] := .inr ⟨_, _, rfl, rfl, fun j u hj => by rw [Addr.add_lit, Nat.zero_add, ← hbn]; exact cell_of z3 _ j _ _ u hz hj, by intro u hu; simp at hu; rcases hu with rfl | rfl <;> rfl⟩
                                  rw [hbn]
                                  refine hK.out _ _ (HMK.out _ (HD.out.next HBz3.out)) (fun hHeld => ?_)
                                  clear hK K kk hz hbn
                                  try simp only [Act.put, List.getElem_toArray, List.getElem_cons_zero, List.getElem_cons_succ, List.setIfInBounds_toArray, List.set_cons_zero, List.set_cons_succ]
                                  have HD3 := hid (HD.out.next HBz3.out)
                                  have oR := own_kept HB.out.row fun g _ hg => HBz3.out.block g hg
                                  rw [HPL.out] at oR
                                  have hsz : y2.heap.size ≤ z3.heap.size := HD3.out.sy.bel.size
                                  refine wpD_ready (rs := [17]) (by kernel_rfl) (by simp) ?_
                                  refine AllD.cons rfl (fun K hK => ?_) AllD.nil
                                  rw [if_pos (by rfl)]
                                  refine wp_append_row z3 (.tmp 178) (.tmp 193) 25 82 _ 2 32 Tryd.underlying25 info82 rfl (by decide) rfl y2.heap.size _ q _ (by simp [Act.eval]) oR _ 1 _ (by simp [Act.eval]) hcs (by unfold room; omega) (by unfold maxLen; omega) hsz (fun v6 z5 hr1 hg1 => ?_)
                                  obtain ⟨p5, c5, hv6⟩ := own_form hr1
                                  subst hv6
                                  have hbe : Below y2.heap.size z3 z5 := hg1.below (fun g hg => (World.ownsRow.lt oR g hg).1) hsz
                                  have hkt : KT 82 z3 z5 := KT.grown oR hg1
                                  have HD5 := hid (HD3.out.step hkt (by decide) (by decide) (by decide) hbe)
                                  have HE5 := hid (own_kt (own_kept HE.out fun g _ hg => HBz3.out.block g hg) (by decide) hkt)
                                  have HB5 := hid (HB.out.snoc HD.out.code HBz3.out ((nn : Int), dat) _ (own_lo HRz3.out HD.out.sy.bel.size) (fun g e => (HRz3.out.lt g e).1) (by rw [HPL.out]; exact hr1) hkt)
                                  refine hK.out _ _ (HMK.out _ HD5.out) (fun hHeld => ?_)
                                  clear hK K hr1 hg1 hbe hcs oR hkt
                                  try simp only [Act.put, List.getElem_toArray, List.getElem_cons_zero, List.getElem_cons_succ, List.setIfInBounds_toArray, List.set_cons_zero, List.set_cons_succ]
                                  refine wpD_take (i := 18) (v := ?_) rfl (by kernel_rfl) (by kernel_rfl) (by kernel_rfl) (by kernel_rfl) (by kernel_rfl) (fun c a w h => h) (Or.inl ⟨by rfl, ?_⟩) hHeld ?_
                                  rotate_left
                                  · (intro w hSw; (try dsimp only at hSw); go_simp; try with_reducible rfl)
                                  simp only [Act.put, List.getElem_toArray, List.getElem_cons_zero, List.getElem_cons_succ, List.setIfInBounds_toArray, List.set_cons_zero, List.set_cons_succ]
                                  have e5 := cell_of z5 g 3 _ 27 _ HD5.out.cg rfl
                                  have f5 := frozen_of z5 g 3 _ 27 HD5.out.cg
                                  refine wpD_ready (rs := [19]) (by kernel_rfl) (by simp) ?_
                                  refine AllD.late rfl (by kernel_rfl) (fun K hK => ?_)
                                  go_simp
                                  refine hK.out _ _ ?_
                                  clear hK K
                                  try simp only [Act.put, List.getElem_toArray, List.getElem_cons_zero, List.getElem_cons_succ, List.setIfInBounds_toArray, List.set_cons_zero, List.set_cons_succ]
                                  refine wpD_done (by kernel_rfl) ?_ _
                                  have HDz := hid (HD5.out.set (eo' := .slice pe k ce) (bo' := .slice p5 (q + 1) c5) 3 (.slice p5 (q + 1) c5) rfl)
                                  have HEz := hid (own_kt HE5.out (by decide) (KT.set (T := 27) (i := 3) (v := .slice p5 (q + 1) c5) HD5.out.cg))
                                  have HBz := hid (HB5.out.step (KT.set (T := 27) (i := 3) (v := .slice p5 (q + 1) c5) HD5.out.cg) (by decide) (by decide))
                                  generalize z5.setCell ⟨g, 3, none⟩ (.slice p5 (q + 1) c5) = yz at *
                                  clear e5 f5
                                  have wj : IntKind.i64.wrap ((J : Int) + 1) = ((J + 1 : Nat) : Int) := by rw [IntWalk.i64_in _ (by omega)]; omega
                                  go_wp2
                                  go_roundw
                                  case rel => exact ⟨J + 1, q + 1, by have := HJq.out; omega, by omega, by omega, _, HDz.out, HEz.out, _, (by rw [HBS.out]; exact HBz.out)⟩
                                  case measure => simp [intOf]; omega
                            have d1 : decide (((6 * k + 6 : Nat) : Int) ≤ (fl.length : Int)) = true := decide_eq_true (by omega)
                            obtain ⟨a1, rfl⟩ : ∃ a1, p1 = some a1 := by
                              obtain ⟨q, c, e, hb⟩ := HS1.out.ex
                              cases e
                              rcases hb with rfl | ⟨y, e, _⟩
                              · simp at hlt
                              · exact ⟨y, e⟩
                            have s26 := fun W => slice_b a1 fl.length cc1 (6 * k) (6 * k + 6) ((6 * k : Nat) : Int) ((6 * k + 6 : Nat) : Int) rfl rfl (by omega) (by omega) (by omega) 6 rfl W
                            obtain ⟨pe, ce, heo⟩ := own_form HE.out
                            subst heo
                            obtain ⟨D, hD0⟩ : ∃ D, fl.drop (6 * k) = D := ⟨_, rfl⟩
                            have hDl : 6 ≤ D.length := by rw [← hD0, List.length_drop]; omega
                            have hbD : Bs wr (some (a1.add (6 * k))) D := by
                              obtain ⟨q, c, e, hb⟩ := HS1.out.ex
                              cases e
                              rw [← hD0]
                              exact bs_drop hb (6 * k)
                            obtain ⟨a2, ha2⟩ : ∃ a2, a1.add (6 * k) = a2 := ⟨_, rfl⟩
                            obtain ⟨c2, hc2⟩ : ∃ c2, cc1 - 6 * k = c2 := ⟨_, rfl⟩
                            have hc6 : 6 ≤ c2 := by omega
                            rw [ha2, hc2] at s26
                            rw [ha2] at hbD
                            have l0 : (D.take 2).length = 2 := by rw [List.length_take]; omega
                            have l1 : ((D.drop 2).take 2).length = 2 := by rw [List.length_take, List.length_drop]; omega
                            have l2 : ((D.drop 4).take 2).length = 2 := by rw [List.length_take, List.length_drop]; omega
                            have b0 := numL_lt (D.take 2)
                            have b1 := numL_lt ((D.drop 2).take 2)
                            have b2 := numL_lt ((D.drop 4).take 2)
                            rw [l0] at b0
                            rw [l1] at b1
                            rw [l2] at b2
                            obtain ⟨n0, hn0⟩ : ∃ n0, numL (D.take 2) = n0 := ⟨_, rfl⟩
                            obtain ⟨n1, hn1⟩ : ∃ n1, numL ((D.drop 2).take 2) = n1 := ⟨_, rfl⟩
                            obtain ⟨n2, hn2⟩ : ∃ n2, numL ((D.drop 4).take 2) = n2 := ⟨_, rfl⟩
                            have k0 : ∀ X : World, Below wr.heap.size wr X → Calls Tryd.prog 43 #[.slice (some a2) 2 c2] X fun e w' => e = .returned (.int .i64 (n0 : Int)) ∧ w' = X := fun X hX => by
                              have := rlow_any (some a2) c2 (D.take 2) (by omega) X (bs_take (bs_below hbD hX) 2)
                              rwa [l0, hn0] at this
                            have k1 : ∀ X : World, Below wr.heap.size wr X → Calls Tryd.prog 43 #[.slice (some (a2.add 2)) 2 (c2 - 2)] X fun e w' => e = .returned (.int .i64 (n1 : Int)) ∧ w' = X := fun X hX => by
                              have := rlow_any (some (a2.add 2)) (c2 - 2) ((D.drop 2).take 2) (by omega) X (bs_take (bs_drop (bs_below hbD hX) 2) 2)
                              rwa [l1, hn1] at this
                            have k2 : ∀ X : World, Below wr.heap.size wr X → Calls Tryd.prog 43 #[.slice (some (a2.add 4)) 2 (c2 - 4)] X fun e w' => e = .returned (.int .i64 (n2 : Int)) ∧ w' = X := fun X hX => by
                              have := rlow_any (some (a2.add 4)) (c2 - 4) ((D.drop 4).take 2) (by omega) X (bs_take (bs_drop (bs_below hbD hX) 4) 2)
                              rwa [l2, hn2] at this
                            have hen : t3 ((effD (k + 1) fl).map encE) = t3 ((effD k fl).map encE) ++ [.int .u16 (n0 : Int), .int .i64 (n1 : Int), .int .i64 (n2 : Int)] := by
                              rw [effD_snoc, hD0, List.map_append, t3_app]
                              unfold e3
                              rw [hn0, hn1, hn2]
                              rfl
                            have hn0' : n0 < 65536 := by rw [← hn0]; exact b0
                            have wn0 : IntKind.u16.wrap (n0 : Int) = (n0 : Int) := IntWalk.u16_in _ (by omega)
                            have wn1 : (n0 : Int) % 65536 = (n0 : Int) := by omega
                            have j2 : (2 : Int) ≤ (c2 : Int) := by omega
                            have j2' : 2 ≤ c2 := by omega
                            have s27 := fun W => slice_b a2 6 c2 2 4 2 4 rfl rfl (by omega) (by omega) (by omega) 2 rfl W
                            have s28 := fun W => slice_b a2 6 c2 4 6 4 6 rfl rfl (by omega) (by omega) (by omega) 2 rfl W
                            have hmk : ∀ X : World, X.heap[g]? = wr.heap[g]? → (fun wz : World => wz.cell? ⟨g, 2, none⟩ = some (.slice pe k ce)) X := fun X hX => cell_of X _ 2 _ 27 _ (hX.trans HD.out.cg) rfl
                            have HMK := hid hmk
                            have HK0 := hid k0
                            have HK1 := hid k1
                            have HK2 := hid k2
                            have HEN := hid hen
                            have HBz0 := hid (Below.refl wr.heap.size wr).drew
                            have hgw : g < wr.heap.size := lt_of HD.out.cg
                            have HA2 := hid (And.intro ha2 hc2)
                            clear hmk k0 k1 k2 hen b0 b1 b2 l0 l1 l2 hn0 hn1 hn2 hbD hD0 ha2 hc2 HS1
                            go_upto_region 27 with fail
                            rw [HA2.out.1, HA2.out.2]
                            clear c15 s26 wk6 d1 HA2
                            refine wp_region_drop [16] (S := (fun wz : World => wz.cell? ⟨g, 2, none⟩ = some (.slice pe k ce))) (by kernel_rfl) (HMK.out _ rfl) (fun hHeld => ?_)
                            generalize wr.drew = z0 at *
                            refine wpD_take (i := 0) (v := ?_) rfl (by kernel_rfl) (by kernel_rfl) (by kernel_rfl) (by kernel_rfl) (by kernel_rfl) (fun c a w h => h) (Or.inl ⟨by rfl, ?_⟩) hHeld ?_
                            rotate_left
                            · (intro w hSw; (try dsimp only at hSw); go_simp; try with_reducible rfl)
                            simp only [Act.put, List.getElem_toArray, List.getElem_cons_zero, List.getElem_cons_succ, List.setIfInBounds_toArray, List.set_cons_zero, List.set_cons_succ]
                            refine wpD_take (i := 1) (v := ?_) rfl (by kernel_rfl) (by kernel_rfl) (by kernel_rfl) (by kernel_rfl) (by kernel_rfl) (fun c a w h => h) (Or.inl ⟨by rfl, ?_⟩) hHeld ?_
                            rotate_left
                            · (intro w hSw; (try dsimp only at hSw); go_simp; try with_reducible rfl)
                            simp only [Act.put, List.getElem_toArray, List.getElem_cons_zero, List.getElem_cons_succ, List.setIfInBounds_toArray, List.set_cons_zero, List.set_cons_succ]
                            refine wpD_take (i := 2) (v := ?_) rfl (by kernel_rfl) (by kernel_rfl) (by kernel_rfl) (by kernel_rfl) (by kernel_rfl) (fun c a w h => h) (Or.inl ⟨by rfl, ?_⟩) hHeld ?_
                            rotate_left
                            · (intro w hSw; (try dsimp only at hSw); go_simp; try with_reducible rfl)
                            simp only [Act.put, List.getElem_toArray, List.getElem_cons_zero, List.getElem_cons_succ, List.setIfInBounds_toArray, List.set_cons_zero, List.set_cons_succ]
                            refine wpD_take (i := 3) (v := ?_) rfl (by kernel_rfl) (by kernel_rfl) (by kernel_rfl) (by kernel_rfl) (by kernel_rfl) (fun c a w h => h) (Or.inl ⟨by rfl, ?_⟩) hHeld ?_
                            rotate_left
                            · (intro w hSw; (try dsimp only at hSw); go_simp; try with_reducible rfl)
                            simp only [Act.put, List.getElem_toArray, List.getElem_cons_zero, List.getElem_cons_succ, List.setIfInBounds_toArray, List.set_cons_zero, List.set_cons_succ]
                            refine wpD_take (i := 6) (v := ?_) rfl (by kernel_rfl) (by kernel_rfl) (by kernel_rfl) (by kernel_rfl) (by kernel_rfl) (fun c a w h => h) (Or.inl ⟨by rfl, ?_⟩) hHeld ?_
                            rotate_left
                            · (intro w hSw; (try dsimp only at hSw); go_simp; try with_reducible rfl)
                            simp only [Act.put, List.getElem_toArray, List.getElem_cons_zero, List.getElem_cons_succ, List.setIfInBounds_toArray, List.set_cons_zero, List.set_cons_succ]
                            refine wpD_take (i := 7) (v := ?_) rfl (by kernel_rfl) (by kernel_rfl) (by kernel_rfl) (by kernel_rfl) (by kernel_rfl) (fun c a w h => h) (Or.inl ⟨by rfl, ?_⟩) hHeld ?_
                            rotate_left
                            · (intro w hSw; (try dsimp only at hSw); go_simp; try with_reducible rfl)
                            simp only [Act.put, List.getElem_toArray, List.getElem_cons_zero, List.getElem_cons_succ, List.setIfInBounds_toArray, List.set_cons_zero, List.set_cons_succ]
                            refine wpD_take (i := 9) (v := ?_) rfl (by kernel_rfl) (by kernel_rfl) (by kernel_rfl) (by kernel_rfl) (by kernel_rfl) (fun c a w h => h) (Or.inl ⟨by rfl, ?_⟩) hHeld ?_
                            rotate_left
                            · (intro w hSw; (try dsimp only at hSw); go_simp; try with_reducible rfl)
                            simp only [Act.put, List.getElem_toArray, List.getElem_cons_zero, List.getElem_cons_succ, List.setIfInBounds_toArray, List.set_cons_zero, List.set_cons_succ]
                            refine wpD_take (i := 10) (v := ?_) rfl (by kernel_rfl) (by kernel_rfl) (by kernel_rfl) (by kernel_rfl) (by kernel_rfl) (fun c a w h => h) (Or.inl ⟨by rfl, ?_⟩) hHeld ?_
                            rotate_left
                            · (intro w hSw; (try dsimp only at hSw); go_simp; try with_reducible rfl)
                            simp only [Act.put, List.getElem_toArray, List.getElem_cons_zero, List.getElem_cons_succ, List.setIfInBounds_toArray, List.set_cons_zero, List.set_cons_succ]
                            refine wpD_ready (rs := [4]) (by kernel_rfl) (by simp) ?_
                            refine AllD.cons rfl (fun K hK => ?_) AllD.nil
                            go_simp
                            refine (HK0.out z0 HBz0.out).mono ?_
                            rintro e wx ⟨rfl, hwx⟩
                            dsimp only
                            rw [hwx]
                            refine hK.out _ _ (HMK.out _ (HBz0.out.block _ hgw)) (fun hHeld => ?_)
                            clear hK K hwx wx
                            try simp only [Act.put, List.getElem_toArray, List.getElem_cons_zero, List.getElem_cons_succ, List.setIfInBounds_toArray, List.set_cons_zero, List.set_cons_succ]
                            refine wpD_take (i := 5) (v := ?_) rfl (by kernel_rfl) (by kernel_rfl) (by kernel_rfl) (by kernel_rfl) (by kernel_rfl) (fun c a w h => h) (Or.inl ⟨by rfl, ?_⟩) hHeld ?_
                            rotate_left
                            · (intro w hSw; (try dsimp only at hSw); go_simp; try with_reducible rfl)
                            simp only [Act.put, List.getElem_toArray, List.getElem_cons_zero, List.getElem_cons_succ, List.setIfInBounds_toArray, List.set_cons_zero, List.set_cons_succ]
                            refine wpD_ready (rs := [8]) (by kernel_rfl) (by simp) ?_
                            refine AllD.cons rfl (fun K hK => ?_) AllD.nil
                            go_simp
                            refine (HK1.out z0 HBz0.out).mono ?_
                            rintro e wx ⟨rfl, hwx⟩
                            dsimp only
                            rw [hwx]
                            refine hK.out _ _ (HMK.out _ (HBz0.out.block _ hgw)) (fun hHeld => ?_)
                            clear hK K hwx wx
                            try simp only [Act.put, List.getElem_toArray, List.getElem_cons_zero, List.getElem_cons_succ, List.setIfInBounds_toArray, List.set_cons_zero, List.set_cons_succ]
                            refine wpD_ready (rs := [11]) (by kernel_rfl) (by simp) ?_
                            refine AllD.cons rfl (fun K hK => ?_) AllD.nil
                            go_simp
                            refine (HK2.out z0 HBz0.out).mono ?_
                            rintro e wx ⟨rfl, hwx⟩
                            dsimp only
                            rw [hwx]
                            refine hK.out _ _ (HMK.out _ (HBz0.out.block _ hgw)) (fun hHeld => ?_)
                            clear hK K hwx wx
                            try simp only [Act.put, List.getElem_toArray, List.getElem_cons_zero, List.getElem_cons_succ, List.setIfInBounds_toArray, List.set_cons_zero, List.set_cons_succ]
                            refine wpD_take (i := 12) (v := ?_) rfl (by kernel_rfl) (by kernel_rfl) (by kernel_rfl) (by kernel_rfl) (by kernel_rfl) (fun c a w h => h) (Or.inl ⟨by rfl, ?_⟩) hHeld ?_
                            rotate_left
                            · (intro w hSw; (try dsimp only at hSw); go_simp; try with_reducible rfl)
                            simp only [Act.put, List.getElem_toArray, List.getElem_cons_zero, List.getElem_cons_succ, List.setIfInBounds_toArray, List.set_cons_zero, List.set_cons_succ]
                            refine wpD_ready (rs := [13]) (by kernel_rfl) (by simp) ?_
                            refine AllD.cons rfl (fun K hK => ?_) AllD.nil
                            go_simp
                            have kk : Below z0.heap.size z0 (z0.alloc (.cells #[.int .u16 (n0 : Int), .int .i64 (n1 : Int), .int .i64 (n2 : Int)] 80)) := (Below.refl _ _).alloc (Nat.le_refl _) _
                            have hz : (z0.alloc (.cells #[.int .u16 (n0 : Int), .int .i64 (n1 : Int), .int .i64 (n2 : Int)] 80)).heap[z0.heap.size]? = some (.cells [.int .u16 (n0 : Int), .int .i64 (n1 : Int), .int .i64 (n2 : Int)].toArray 80 (0, 0)) := heap_alloc_new z0 _
                            generalize z0.alloc (.cells #[.int .u16 (n0 : Int), .int .i64 (n1 : Int), .int .i64 (n2 : Int)] 80) = z1 at *
                            obtain ⟨gn, hbn⟩ : ∃ bn, z0.heap.size = bn := ⟨_, rfl⟩
                            have HBz1 := hid (HBz0.out.trans (kk.mono HBz0.out.size))
                            have hcs : Cs z1 (.slice (some ⟨gn, 0, none⟩) 1 1) 3 1 [.int .u16 (n0 : Int), .int .i64 (n1 : Int), .int .i64 (n2 : Int)] := .inr ⟨_, _, rfl, rfl, fun j u hj => by rw [Addr.add_lit, Nat.zero_add, ← hbn]; exact cell_of z1 _ j _ _ u hz hj, by intro u hu; simp at hu; rcases hu with rfl | rfl | rfl <;> rfl⟩
                            rw [hbn]
                            refine hK.out _ _ (HMK.out _ (HBz1.out.block _ hgw)) (fun hHeld => ?_)
                            clear hK K kk hz hbn
                            try simp only [Act.put, List.getElem_toArray, List.getElem_cons_zero, List.getElem_cons_succ, List.setIfInBounds_toArray, List.set_cons_zero, List.set_cons_succ]
                            have HD1 := hid (HD.out.next HBz1.out)
                            have oR := own_kept HE.out fun g _ hg => HBz1.out.block g hg
                            have hsz : y2.heap.size ≤ z1.heap.size := HD1.out.sy.bel.size
                            refine wpD_ready (rs := [14]) (by kernel_rfl) (by simp) ?_
                            refine AllD.cons rfl (fun K hK => ?_) AllD.nil
                            rw [if_pos (by rfl)]
                            refine wp_append_row z1 (.tmp 156) (.tmp 168) 24 80 _ 3 24 Tryd.underlying24 infoE rfl (by decide) rfl y2.heap.size _ k _ (by simp [Act.eval]) oR _ 1 _ (by simp [Act.eval]) hcs (by unfold room; omega) (by unfold maxLen; omega) hsz (fun v5 z5 hr1 hg1 => ?_)
                            obtain ⟨p5, c5, hv5⟩ := own_form hr1
                            subst hv5
                            have hbe : Below y2.heap.size z1 z5 := hg1.below (fun g hg => (World.ownsRow.lt oR g hg).1) hsz
                            have HD5 := hid (HD1.out.step (KT.grown oR hg1) (by decide) (by decide) (by decide) hbe)
                            have HG := hid hr1
                            refine hK.out _ _ (HMK.out _ (HD5.out.cg.trans HD.out.cg.symm)) (fun hHeld => ?_)
                            clear hK K hr1 hg1 hbe hcs oR
                            try simp only [Act.put, List.getElem_toArray, List.getElem_cons_zero, List.getElem_cons_succ, List.setIfInBounds_toArray, List.set_cons_zero, List.set_cons_succ]
                            refine wpD_take (i := 15) (v := ?_) rfl (by kernel_rfl) (by kernel_rfl) (by kernel_rfl) (by kernel_rfl) (by kernel_rfl) (fun c a w h => h) (Or.inl ⟨by rfl, ?_⟩) hHeld ?_
                            rotate_left
                            · (intro w hSw; (try dsimp only at hSw); go_simp; try with_reducible rfl)
                            simp only [Act.put, List.getElem_toArray, List.getElem_cons_zero, List.getElem_cons_succ, List.setIfInBounds_toArray, List.set_cons_zero, List.set_cons_succ]
                            have e5 := cell_of z5 g 2 _ 27 _ HD5.out.cg rfl
                            have f5 := frozen_of z5 g 2 _ 27 HD5.out.cg
                            refine wpD_ready (rs := [16]) (by kernel_rfl) (by simp) ?_
                            refine AllD.late rfl (by kernel_rfl) (fun K hK => ?_)
                            go_simp
                            refine hK.out _ _ ?_
                            clear hK K
                            try simp only [Act.put, List.getElem_toArray, List.getElem_cons_zero, List.getElem_cons_succ, List.setIfInBounds_toArray, List.set_cons_zero, List.set_cons_succ]
                            refine wpD_done (by kernel_rfl) ?_ _
                            have HDz := hid (HD5.out.set (eo' := .slice p5 (k + 1) c5) (bo' := .slice none 0 0) 2 (.slice p5 (k + 1) c5) rfl)
                            have HEz := hid (show (z5.setCell ⟨g, 2, none⟩ (.slice p5 (k + 1) c5)).ownsRow y2.heap.size 80 3 (.slice p5 (k + 1) c5) (k + 1) (t3 ((effD (k + 1) fl).map encE)) by rw [HEN.out]; exact own_kt HG.out (by decide) (KT.set (T := 27) HD5.out.cg))
                            generalize z5.setCell ⟨g, 2, none⟩ (.slice p5 (k + 1) c5) = yz at *
                            clear e5 f5
                            have wk6 : IntKind.i64.wrap (((6 * k : Nat) : Int) + 6) = ((6 * k + 6 : Nat) : Int) := by rw [IntWalk.i64_in _ (by omega)]; omega
                            go_wp2
                            go_roundw
                            case rel => exact ⟨k + 1, _, by omega, (by first | rfl | (congr 1)), HDz.out, HEz.out⟩
                            case measure => simp [intOf]; omega
              have d1 : (k : Int) < (m : Int) := by omega
              have d1' : decide ((k : Int) < (m : Int)) = true := decide_eq_true d1
              obtain ⟨L, hL⟩ : ∃ L, L = 8 + 10 * k := ⟨_, rfl⟩
              obtain ⟨AT, hAT⟩ : ∃ AT, ats b m k = AT := ⟨_, rfl⟩
              rw [hAT] at hat
              rw [hAT, hvv, hlp]
              have hrl := row_len b k (by omega)
              have hbR : Bs wr (some (x.add L)) (rowL b k) := by unfold rowL; rw [← hL]; exact bs_take (bs_drop hbr L) 10
              have wk1 : IntKind.i64.wrap (10 * (k : Int)) = 10 * (k : Int) := IntWalk.i64_in _ (by omega)
              have wk2 : IntKind.i64.wrap (8 + 10 * (k : Int)) = 8 + 10 * (k : Int) := IntWalk.i64_in _ (by omega)
              have wk3 : IntKind.i64.wrap (18 + 10 * (k : Int)) = 18 + 10 * (k : Int) := IntWalk.i64_in _ (by omega)
              have s14 := fun W => slice_b x b.length cp L (L + 10) (8 + 10 * (k : Int)) (18 + 10 * (k : Int)) (by omega) (by omega) (by omega) (by omega) (by omega) 10 rfl W
              obtain ⟨xr, hxr⟩ : ∃ xr, x.add L = xr := ⟨_, rfl⟩
              obtain ⟨cr, hcr⟩ : ∃ cr, cp - L = cr := ⟨_, rfl⟩
              have hcr10 : 10 ≤ cr := by omega
              rw [hxr, hcr] at s14
              rw [hxr] at hbR
              have s15 := fun W => slice_b xr 10 cr 6 10 6 10 rfl rfl (by omega) hcr10 (by omega) 4 rfl W
              have s16 := fun W => slice_b xr 10 cr 2 6 2 6 rfl rfl (by omega) (by omega) (by omega) 4 rfl W
              have l6 : (((rowL b k).drop 6).take 4).length = 4 := by rw [List.length_take, List.length_drop, hrl]; rfl
              have l2 : (((rowL b k).drop 2).take 4).length = 4 := by rw [List.length_take, List.length_drop, hrl]; rfl
              have kS := rlow_any (some (xr.add 6)) (cr - 6) (((rowL b k).drop 6).take 4) (by omega) wr (bs_take (bs_drop hbR 6) 4)
              have kB := rlow_any (some (xr.add 2)) (cr - 2) (((rowL b k).drop 2).take 4) (by omega) wr (bs_take (bs_drop hbR 2) 4)
              have n6 := numL_lt (((rowL b k).drop 6).take 4)
              have n2 := numL_lt (((rowL b k).drop 2).take 4)
              rw [l6] at kS n6
              rw [l2] at kB n2
              obtain ⟨ss, hss⟩ : ∃ ss, s_ (rowL b k) = ss := ⟨_, rfl⟩
              obtain ⟨bb, hbb⟩ : ∃ bb, b_ (rowL b k) = bb := ⟨_, rfl⟩
              rw [show numL (((rowL b k).drop 6).take 4) = ss from hss] at kS n6
              rw [show numL (((rowL b k).drop 2).take 4) = bb from hbb] at kB n2
              have hss3 : ss < 4294967296 := n6
              have hbb3 : bb < 4294967296 := n2
              have hokr : okr b m k ↔ (bb = AT ∧ ss ≤ t - AT) := by unfold okr; rw [hss, hbb, hAT, show b.length - 4 = t by omega]
              obtain ⟨hk0, hk1⟩ := row_k (rowL b k) (by omega)
              have hbRc : Bs y2 (some xr) (rowL b k) := by rw [← hxr, hL]; unfold rowL; exact bs_take (bs_drop HY.out.1 _) 10
              have HR0 := hid (And.intro hbRc (And.intro hk0 hk1))
              clear hbRc
              have HF := hid (And.intro hokr (And.intro hss hAT))
              have HBr := hid (And.intro hBr hZr)
              rw [hlp] at hvv
              have HVV := hid hvv
              clear n6 n2 l6 l2 hbR hk0 hk1 hokr hBr hZr hss hbb hAT hbr hrl hvv
              go_upto_region 15 with fail
              clear s14 wk1 wk2 wk3 s16
              go_wp2_with fail
              refine kS.mono ?_
              rintro e wx ⟨rfl, hwx⟩
              rw [hwx]
              clear hwx wx kS s15
              have s16 := fun W => slice_b xr 10 cr 2 6 2 6 rfl rfl (by omega) (by omega) (by omega) 4 rfl W
              have wta : IntKind.i64.wrap ((t : Int) - (AT : Int)) = (t : Int) - (AT : Int) := IntWalk.i64_in _ (by omega)
              go_upto_region 16 with fail
              go_cut [96] (fun s wc2 => s = .bool (!decide (bb = AT ∧ ss ≤ t - AT)) ∧ wc2 = wr)
              case first =>
                as_aux_lemma =>
                  by_cases q1 : bb = AT
                  case neg =>
                    have e1 : ((bb : Int) != (AT : Int)) = true := by simp; omega
                    have e2 : ¬ (bb : Int) = (AT : Int) := by omega
                    go_wp2_with fail
                    refine kB.mono ?_
                    rintro e wx ⟨rfl, hwx⟩
                    rw [hwx]
                    clear hwx wx kB
                    go_wp2
                    go_meet
                    case rel => exact ⟨by rw [decide_eq_false (fun g => q1 g.1)]; rfl, rfl⟩
                  subst q1
                  by_cases q2 : ss ≤ t - bb
                  · have e1 : decide ((t : Int) - (bb : Int) < (ss : Int)) = false := decide_eq_false (by omega)
                    go_wp2_with fail
                    refine kB.mono ?_
                    rintro e wx ⟨rfl, hwx⟩
                    rw [hwx]
                    clear hwx wx kB
                    go_wp2
                    go_meet
                    case rel => exact ⟨by simp [q2], rfl⟩
                  · have e1 : decide ((t : Int) - (bb : Int) < (ss : Int)) = true := decide_eq_true (by omega)
                    go_wp2_with fail
                    refine kB.mono ?_
                    rintro e wx ⟨rfl, hwx⟩
                    rw [hwx]
                    clear hwx wx kB
                    go_wp2
                    go_meet
                    case rel => exact ⟨by simp [q2], rfl⟩
              case rest =>
                as_aux_lemma =>
                  clear kB s16 wta
                  obtain ⟨rfl, hwz⟩ := hcut
                  rw [hwz]
                  clear hwz
                  by_cases hgo : bb = AT ∧ ss ≤ t - AT
                  case neg =>
                    rw [decide_eq_false hgo]
                    have htn := none_of HY.out.2 hmt.1 hmt.2.1 (by omega) hlt (fun g => hgo (HF.out.1.1 g))
                    simp only [Bool.not_false]
                    go_upto_region 17 with fail
                    have z1 := HBr.out.2
                    go_wp2_with (refine wpList_store_row rfl 27 _ _ rfl w.heap.size #[.slice none 0 0, .int .u16 0, .slice none 0 0, .slice none 0 0] rfl rfl 27 #[.slice none 0 0, .int .u16 0, .slice none 0 0, .slice none 0 0] z1 (by kernel_rfl) (by rfl) (by simp [Value.oneCell']) ?_)
                    have hg := setRow_heap _ w.heap.size _ #[.slice none 0 0, .int .u16 0, .slice none 0 0, .slice none 0 0] _ _ z1
                    have hbf := row_below HBr.out.1 #[.slice none 0 0, .int .u16 0, .slice none 0 0, .slice none 0 0]
                    generalize World.setRow _ w.heap.size #[.slice none 0 0, .int .u16 0, .slice none 0 0, .slice none 0 0] = z6 at *
                    have r0 := cell_of z6 w.heap.size 0 [.slice none 0 0, .int .u16 0, .slice none 0 0, .slice none 0 0] 27 _ hg rfl
                    have r1 := cell_of z6 w.heap.size 1 [.slice none 0 0, .int .u16 0, .slice none 0 0, .slice none 0 0] 27 _ hg rfl
                    have r2 := cell_of z6 w.heap.size 2 [.slice none 0 0, .int .u16 0, .slice none 0 0, .slice none 0 0] 27 _ hg rfl
                    have r3 := cell_of z6 w.heap.size 3 [.slice none 0 0, .int .u16 0, .slice none 0 0, .slice none 0 0] 27 _ hg rfl
                    exact bodyPost_ret (v := .tuple #[.agg #[.slice none 0 0, .int .u16 0, .slice none 0 0, .slice none 0 0], .int .i64 72]) (by simp [results, Tryd.results20, go_sem, r0, r1, r2, r3]) rfl (dec_err' (k := 72) (d72 HM.out HSO.out htn) hbf)
                  rw [decide_eq_true hgo]
                  simp only [Bool.not_true]
                  obtain ⟨hbA, hsl⟩ := hgo
                  obtain ⟨hct, hcl⟩ := body_cut b t AT ss ht (by omega)
                  have s18 := fun W => slice_b x b.length cp AT (AT + ss) (AT : Int) ((AT : Int) + (ss : Int)) rfl (by omega) (by omega) (by omega) (by omega) ss rfl W
                  have was : IntKind.i64.wrap ((AT : Int) + (ss : Int)) = (AT : Int) + (ss : Int) := IntWalk.i64_in _ (by omega)
                  have hsec : secR b m k = (k_ (rowL b k), n_ (rowL b k), (b.drop AT).take ss) := by unfold secR; rw [HF.out.2.1, HF.out.2.2, hct]
                  have hdat : Sl y2 (.slice (some (x.add AT)) ss (cp - AT)) ((b.drop AT).take ss) := by
                    have := bs_sl (c := cp - AT) (bs_take (bs_drop HY.out.1 AT) ss) (by rw [hcl]; omega)
                    rwa [hcl] at this
                  obtain ⟨kk, hkk⟩ : ∃ kk, k_ (rowL b k) = kk := ⟨_, rfl⟩
                  obtain ⟨nn, hnn⟩ : ∃ nn, n_ (rowL b k) = nn := ⟨_, rfl⟩
                  have c0 : y2.cell? xr = some (.int .u8 (kk.toNat : Int)) := by
                    obtain ⟨x', e, c⟩ := HR0.out.1.at 0 _ HR0.out.2.1
                    cases e
                    rw [hkk, add_z] at c
                    exact c
                  have c1 : y2.cell? ⟨xr.block, xr.off + 1, none⟩ = some (.int .u8 (nn.toNat : Int)) := by
                    obtain ⟨x', e, c⟩ := HR0.out.1.at 1 _ HR0.out.2.2
                    cases e
                    rw [hnn] at c
                    exact c
                  rw [hkk, hnn] at hsec
                  obtain ⟨xd, hxd⟩ : ∃ xd, x.add AT = xd := ⟨_, rfl⟩
                  obtain ⟨cd, hcd⟩ : ∃ cd, cp - AT = cd := ⟨_, rfl⟩
                  obtain ⟨dat, hdt⟩ : ∃ dat, (b.drop AT).take ss = dat := ⟨_, rfl⟩
                  rw [hxd, hcd] at s18 hdat
                  rw [hdt] at hsec hdat hcl
                  obtain ⟨W3, hW3⟩ : ∃ W3, W3 = (wr.alloc (.cells #[.int .u8 (kk.toNat : Int), .int .u8 (nn.toNat : Int), .slice (some xd) ss cd] 88)).drew := ⟨_, rfl⟩
                  have hb3 : Below wr.heap.size wr W3 := by rw [hW3]; exact ((Below.refl _ _).alloc (Nat.le_refl _) _).drew
                  have hown := (HX.out.below hb3).row
                  have hcs : Cs W3 (.slice (some ⟨wr.heap.size, 0, none⟩) 1 1) 3 1 (scs [(((kk, nn, dat), Value.slice (some xd) ss cd) : Sec × Value)]) := by
                    refine .inr ⟨⟨wr.heap.size, 0, none⟩, 1, rfl, rfl, ?_, scs_one _ (by intro x hx; simp at hx; subst hx; rfl)⟩
                    intro j x hj
                    have hn : W3.heap[wr.heap.size]? = some (.cells (scs [(((kk, nn, dat), Value.slice (some xd) ss cd) : Sec × Value)]).toArray 88 (0, 0)) := by
                      rw [hW3]
                      exact heap_alloc_new wr (.cells #[.int .u8 (kk.toNat : Int), .int .u8 (nn.toNat : Int), .slice (some xd) ss cd] 88)
                    have e : (⟨wr.heap.size, 0, none⟩ : Addr).add j = ⟨wr.heap.size, j, none⟩ := by rw [Addr.add_lit]; simp
                    rw [e]
                    exact cell_of _ _ _ _ _ x hn hj
                  have b1 : (k + 1) * 32 ≤ room := by unfold room; omega
                  have b2 : k + 1 ≤ maxLen := by unfold maxLen; omega
                  have hwz : y2.heap.size ≤ W3.heap.size := Nat.le_trans HX.out.bel.size hb3.size
                  have hSS : ∀ W, Below y2.heap.size y2 W → (fun wz : World => wz.cell? xr = some (.int .u8 (kk.toNat : Int)) ∧ wz.cell? ⟨xr.block, xr.off + 1, none⟩ = some (.int .u8 (nn.toNat : Int))) W := fun W j => ⟨below_cell j _ _ c0, below_cell j _ _ c1⟩
                  have s0 := hSS wr.drew (HX.out.bel.drew)
                  have s1 := hSS W3 (HX.out.below hb3).bel
                  have hend : ∀ v' w4, w4.ownsRow y2.heap.size 88 3 v' (k + 1) (scs prs ++ scs [(((kk, nn, dat), Value.slice (some xd) ss cd) : Sec × Value)]) → Grew W3 w4 (.slice vp k vc) v' →
                      ((prs ++ [(((kk, nn, dat), Value.slice (some xd) ss cd) : Sec × Value)]).map Prod.fst = secsR b m (k + 1) ∧ Sy y2 w4 v' (prs ++ [(((kk, nn, dat), Value.slice (some xd) ss cd) : Sec × Value)])) ∧ (fun wz : World => wz.cell? xr = some (.int .u8 (kk.toNat : Int)) ∧ wz.cell? ⟨xr.block, xr.off + 1, none⟩ = some (.int .u8 (nn.toNat : Int))) w4 := by
                    intro v' w4 ho hg
                    rw [← HVV.out] at hg
                    have y := HX.out.snoc hb3 (((kk, nn, dat), Value.slice (some xd) ss cd) : Sec × Value) hdat (by show dat.length ≤ room; rw [hcl]; unfold room; omega) hg (by rw [hlp]; exact ho)
                    refine ⟨⟨?_, y⟩, hSS w4 y.bel⟩
                    rw [List.map_append, HP.out, secsR_succ, hsec]
                    rfl
                  rw [HVV.out, hlp] at hown
                  have HE := hid hend
                  have i10 : (0 : Int) < 10 := by decide
                  have HAS := hid (show ats b m (k + 1) = AT + ss by show ats b m k + s_ (rowL b k) = _; rw [HF.out.2.1, HF.out.2.2])
                  have HOK2 := hid (show ∀ j, j < k + 1 → okr b m j from fun j hj => by
                    by_cases e : j = k
                    · rw [e]; exact HF.out.1.2 ⟨hbA, hsl⟩
                    · exact HOK.out j (by omega))
                  clear hend hb3 hSS c0 c1 hsec hdat hkk hnn hct hcl hxd hcd hdt hbA HF HR0
                  go_upto_region 18 with fail
                  refine wp_region_held_drew (S := (fun wz : World => wz.cell? xr = some (.int .u8 (kk.toNat : Int)) ∧ wz.cell? ⟨xr.block, xr.off + 1, none⟩ = some (.int .u8 (nn.toNat : Int)))) (by kernel_rfl) s0 (fun hHeld => ?_)
                  refine wpAnyH_take (i := 0) (v := ?_) rfl (by kernel_rfl) (by kernel_rfl) (by kernel_rfl) (fun c a w h => h) (Or.inl ⟨by rfl, ?_⟩) hHeld ?_
                  rotate_left
                  · (intro w hSw; (try dsimp only at hSw); go_simp; try with_reducible rfl)
                  simp only [Act.put, List.getElem_toArray, List.getElem_cons_zero, List.getElem_cons_succ, List.setIfInBounds_toArray, List.set_cons_zero, List.set_cons_succ]
                  refine wpAnyH_take (i := 1) (v := ?_) rfl (by kernel_rfl) (by kernel_rfl) (by kernel_rfl) (fun c a w h => h) (Or.inl ⟨by rfl, ?_⟩) hHeld ?_
                  rotate_left
                  · (intro w hSw; (try dsimp only at hSw); go_simp; try with_reducible rfl)
                  simp only [Act.put, List.getElem_toArray, List.getElem_cons_zero, List.getElem_cons_succ, List.setIfInBounds_toArray, List.set_cons_zero, List.set_cons_succ]
                  refine wpAnyH_take (i := 2) (v := ?_) rfl (by kernel_rfl) (by kernel_rfl) (by kernel_rfl) (fun c a w h => h) (Or.inl ⟨by rfl, ?_⟩) hHeld ?_
                  rotate_left
                  · (intro w hSw; (try dsimp only at hSw); go_simp; try with_reducible rfl)
                  simp only [Act.put, List.getElem_toArray, List.getElem_cons_zero, List.getElem_cons_succ, List.setIfInBounds_toArray, List.set_cons_zero, List.set_cons_succ]
                  refine wpAnyH_take (i := 3) (v := ?_) rfl (by kernel_rfl) (by kernel_rfl) (by kernel_rfl) (fun c a w h => h) (Or.inl ⟨by rfl, ?_⟩) hHeld ?_
                  rotate_left
                  · (intro w hSw; (try dsimp only at hSw); go_simp; try with_reducible rfl)
                  simp only [Act.put, List.getElem_toArray, List.getElem_cons_zero, List.getElem_cons_succ, List.setIfInBounds_toArray, List.set_cons_zero, List.set_cons_succ]
                  refine wpAnyH_take (i := 4) (v := ?_) rfl (by kernel_rfl) (by kernel_rfl) (by kernel_rfl) (fun c a w h => h) (Or.inl ⟨by rfl, ?_⟩) hHeld ?_
                  rotate_left
                  · (intro w hSw; (try dsimp only at hSw); go_simp; try with_reducible rfl)
                  simp only [Act.put, List.getElem_toArray, List.getElem_cons_zero, List.getElem_cons_succ, List.setIfInBounds_toArray, List.set_cons_zero, List.set_cons_succ]
                  refine wpAnyH_take (i := 5) (v := ?_) rfl (by kernel_rfl) (by kernel_rfl) (by kernel_rfl) (fun c a w h => h) (Or.inl ⟨by rfl, ?_⟩) hHeld ?_
                  rotate_left
                  · (intro w hSw; (try dsimp only at hSw); go_simp; try with_reducible rfl)
                  simp only [Act.put, List.getElem_toArray, List.getElem_cons_zero, List.getElem_cons_succ, List.setIfInBounds_toArray, List.set_cons_zero, List.set_cons_succ]
                  refine wpAnyH_take (i := 6) (v := ?_) rfl (by kernel_rfl) (by kernel_rfl) (by kernel_rfl) (fun c a w h => h) (Or.inl ⟨by rfl, ?_⟩) hHeld ?_
                  rotate_left
                  · (intro w hSw; (try dsimp only at hSw); go_simp; try with_reducible rfl)
                  simp only [Act.put, List.getElem_toArray, List.getElem_cons_zero, List.getElem_cons_succ, List.setIfInBounds_toArray, List.set_cons_zero, List.set_cons_succ]
                  refine wpAnyH_take (i := 7) (v := ?_) rfl (by kernel_rfl) (by kernel_rfl) (by kernel_rfl) (fun c a w h => h) (Or.inl ⟨by rfl, ?_⟩) hHeld ?_
                  rotate_left
                  · (intro w hSw; (try dsimp only at hSw); go_simp; try with_reducible rfl)
                  simp only [Act.put, List.getElem_toArray, List.getElem_cons_zero, List.getElem_cons_succ, List.setIfInBounds_toArray, List.set_cons_zero, List.set_cons_succ]
                  refine wpAnyH_take (i := 8) (v := ?_) rfl (by kernel_rfl) (by kernel_rfl) (by kernel_rfl) (fun c a w h => h) (Or.inl ⟨by rfl, ?_⟩) hHeld ?_
                  rotate_left
                  · (intro w hSw; (try dsimp only at hSw); go_simp; try with_reducible rfl)
                  simp only [Act.put, List.getElem_toArray, List.getElem_cons_zero, List.getElem_cons_succ, List.setIfInBounds_toArray, List.set_cons_zero, List.set_cons_succ]
                  refine wpAnyH_take (i := 9) (v := ?_) rfl (by kernel_rfl) (by kernel_rfl) (by kernel_rfl) (fun c a w h => h) (Or.inl ⟨by rfl, ?_⟩) hHeld ?_
                  rotate_left
                  · (intro w hSw; (try dsimp only at hSw); go_simp; try with_reducible rfl)
                  simp only [Act.put, List.getElem_toArray, List.getElem_cons_zero, List.getElem_cons_succ, List.setIfInBounds_toArray, List.set_cons_zero, List.set_cons_succ]
                  refine wpAnyH_take (i := 10) (v := ?_) rfl (by kernel_rfl) (by kernel_rfl) (by kernel_rfl) (fun c a w h => h) (Or.inl ⟨by rfl, ?_⟩) hHeld ?_
                  rotate_left
                  · (intro w hSw; (try dsimp only at hSw); go_simp; try with_reducible rfl)
                  simp only [Act.put, List.getElem_toArray, List.getElem_cons_zero, List.getElem_cons_succ, List.setIfInBounds_toArray, List.set_cons_zero, List.set_cons_succ]
                  refine wpAnyH_take (i := 11) (v := ?_) rfl (by kernel_rfl) (by kernel_rfl) (by kernel_rfl) (fun c a w h => h) (Or.inl ⟨by rfl, ?_⟩) hHeld ?_
                  rotate_left
                  · (intro w hSw; (try dsimp only at hSw); go_simp; try with_reducible rfl)
                  simp only [Act.put, List.getElem_toArray, List.getElem_cons_zero, List.getElem_cons_succ, List.setIfInBounds_toArray, List.set_cons_zero, List.set_cons_succ]
                  refine wpAnyH_take (i := 12) (v := ?_) rfl (by kernel_rfl) (by kernel_rfl) (by kernel_rfl) (fun c a w h => h) (Or.inl ⟨by rfl, ?_⟩) hHeld ?_
                  rotate_left
                  · (intro w hSw; (try dsimp only at hSw); go_simp; try with_reducible rfl)
                  simp only [Act.put, List.getElem_toArray, List.getElem_cons_zero, List.getElem_cons_succ, List.setIfInBounds_toArray, List.set_cons_zero, List.set_cons_succ]
                  refine wpAnyH_take (i := 13) (v := ?_) rfl (by kernel_rfl) (by kernel_rfl) (by kernel_rfl) (fun c a w h => h) (Or.inl ⟨by rfl, ?_⟩) hHeld ?_
                  rotate_left
                  · (intro w hSw; (try dsimp only at hSw); go_simp; try with_reducible rfl)
                  simp only [Act.put, List.getElem_toArray, List.getElem_cons_zero, List.getElem_cons_succ, List.setIfInBounds_toArray, List.set_cons_zero, List.set_cons_succ]
                  refine wpAnyH_ready (rs := [14]) (by kernel_rfl) (by simp) ?_
                  refine AllReadyH.cons rfl (fun K hK => ?_) AllReadyH.nil
                  go_simp
                  rw [← hW3]
                  refine hK.out _ _ s1 (fun hHeld => ?_)
                  clear hK K
                  refine wpAnyH_ready (rs := [15]) (by kernel_rfl) (by simp) ?_
                  refine AllReadyH.cons rfl (fun K hK => ?_) AllReadyH.nil
                  refine step_append_row rfl (.tmp 98) (.tmp 112) 86 88 (.agg #[.int .u8 0, .int .u8 0, .slice none 0 0]) 3 32 Tryd.underlying86 info88 rfl (by decide) rfl y2.heap.size (.slice vp k vc) k (scs prs) (by simp [Act.eval]) hown (.slice (some ⟨wr.heap.size, 0, none⟩) 1 1) 1 _ (by simp [Act.eval]) hcs b1 b2 hwz ?_
                  intro v' w4 ho hg
                  obtain ⟨⟨hP2, hX2⟩, s4⟩ := HE.out v' w4 ho hg
                  obtain ⟨vp2, vc2, hvv2, _⟩ := hX2.ses
                  have HZ2 := hid (And.intro hP2 hX2)
                  subst hvv2
                  clear hP2 hX2 ho hg HE hown hcs
                  refine hK.out _ _ s4 (fun hHeld => ?_)
                  clear hK K
                  simp only [Act.put, List.getElem_toArray, List.getElem_cons_zero, List.getElem_cons_succ, List.setIfInBounds_toArray, List.set_cons_zero, List.set_cons_succ]
                  refine wpAnyH_ready (rs := [16]) (by kernel_rfl) (by simp) ?_
                  refine AllReadyH.cons rfl (fun K hK => ?_) AllReadyH.nil
                  go_simp
                  refine hK.out _ _ s4 (fun hHeld => ?_)
                  clear hK K
                  refine wpAnyH_done (by kernel_rfl) ?_ _
                  clear s0 s1 s4 hHeld
                  have wk1 : IntKind.i64.wrap ((k : Int) + 1) = (k : Int) + 1 := IntWalk.i64_in _ (by omega)
                  go_wp2
                  go_roundw
                  case rel =>
                    refine ⟨k + 1, _, by omega, by go_num, ?_, ?_, HZ2.out.1, HOK2.out, ?_⟩
                    · rw [HAS.out]; first | rfl | (congr 1) | go_num
                    · rw [HAS.out]; omega
                    · first | exact HZ2.out.2 | (have := HZ2.out.2; rw [List.length_append] at this; exact this) | (have := HZ2.out.2; rw [List.length_append, hlp] at this; exact this)
                  case measure => simp [intOf]; omega
    · have hb3 : ¬ (⟨(b.take 5).toArray⟩ : ByteArray) = ⟨#[87, 73, 83, 80, 1]⟩ := fun c => hm (by
        have := congrArg (fun q : ByteArray => q.data.toList) c
        simpa [magic] using this)
      have hb2 : ¬ (⟨(b.take 5).toArray⟩ : ByteArray).toList = (⟨#[87, 73, 83, 80, 1]⟩ : ByteArray).toList := fun c => hb3 (by
        rw [ByteArray.toList_eq, ByteArray.toList_eq] at c
        have : (b.take 5).toArray = #[87, 73, 83, 80, 1] := by apply Array.ext'; simpa using c
        rw [this])
      have hb4 : (b.take 5 == [87, 73, 83, 80, 1]) = false := by
        rw [beq_eq_false_iff_ne]; exact hm
      have HM := hid hm
      clear hs5 hbs hbW hm
      go_enter Tryd.func20, Tryd.ntmps20
      go_upto_region 1 with fail
      rw [HW.out]
      go_upto_region 2 with fail
      have z1 := HZ.out
      go_wp2_with (refine wpList_store_row rfl 27 _ _ rfl w.heap.size #[.slice none 0 0, .int .u16 0, .slice none 0 0, .slice none 0 0] rfl rfl 27 #[.slice none 0 0, .int .u16 0, .slice none 0 0, .slice none 0 0] z1 (by kernel_rfl) (by rfl) (by simp [Value.oneCell']) ?_)
      have hg := setRow_heap _ w.heap.size _ #[.slice none 0 0, .int .u16 0, .slice none 0 0, .slice none 0 0] _ _ z1
      have hbf := row_below HB.out #[.slice none 0 0, .int .u16 0, .slice none 0 0, .slice none 0 0]
      generalize World.setRow _ w.heap.size #[.slice none 0 0, .int .u16 0, .slice none 0 0, .slice none 0 0] = z6 at *
      have r0 := cell_of z6 w.heap.size 0 [.slice none 0 0, .int .u16 0, .slice none 0 0, .slice none 0 0] 27 _ hg rfl
      have r1 := cell_of z6 w.heap.size 1 [.slice none 0 0, .int .u16 0, .slice none 0 0, .slice none 0 0] 27 _ hg rfl
      have r2 := cell_of z6 w.heap.size 2 [.slice none 0 0, .int .u16 0, .slice none 0 0, .slice none 0 0] 27 _ hg rfl
      have r3 := cell_of z6 w.heap.size 3 [.slice none 0 0, .int .u16 0, .slice none 0 0, .slice none 0 0] 27 _ hg rfl
      exact bodyPost_ret (v := .tuple #[.agg #[.slice none 0 0, .int .u16 0, .slice none 0 0, .slice none 0 0], .int .i64 70]) (by simp [results, Tryd.results20, go_sem, r0, r1, r2, r3]) rfl (dec_err' (k := 70) (d70 HM.out) hbf)
end Go.Proofs.YtmlpijjjkpnioaaDoor.C
