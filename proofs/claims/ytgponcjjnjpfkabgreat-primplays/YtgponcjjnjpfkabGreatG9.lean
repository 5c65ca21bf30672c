import Derived.Test.YtgponcjjnjpfkabGreatG8
import Derived.Deep.RegionHeld
/-! The reference's looks and May. -/
namespace Go.Proofs.YtgponcjjnjpfkabGreat.L
open Go.RowKit
open Go.Proofs
open P
set_option linter.unusedVariables false
set_option linter.unusedSimpArgs false
set_option maxHeartbeats 2000000
set_option maxRecDepth 100000
theorem sizeP6m : (Tryz.prog.info? 57).map (·.size) = some 6 := by kernel_rfl
theorem mkRow6 (w : World) (z c : Array Value) (t : TypeId) : (w.alloc (.cells z t)).heap[w.heap.size]? = some (.cells z t (0, 0)) ∧ ((w.alloc (.cells z t)).setRow w.heap.size c).heap[w.heap.size]? = some (.cells c t (0, 0)) ∧ Below w.heap.size w ((w.alloc (.cells z t)).setRow w.heap.size c) :=
  ⟨heap_alloc_new w _, setRow_heap _ _ _ _ _ _ (heap_alloc_new w _), P.Below.setRow (P.bel_alloc w _) _ (Nat.le_refl _) _⟩
theorem ri_is (n : Nat) (hp : plain (n : Int) = true) : ri n = ((rw_ (n : Int)).i : Int) ∧ ro n = ((rw_ (n : Int)).o : Int) := by
  rcases plain_cases (n : Int) hp with h | h | h | h | h | h | h | h | h | h | h | h | h | h | h | h | h | h | h | h | h | h | h | h | h | h | h | h | h | h | h | h | h | h | h | h | h | h | h | h | h | h | h | h | h | h | h | h | h | h | h | h | h | h
  · obtain rfl : n = 6 := by omega
    exact ⟨rfl, rfl⟩
  · obtain rfl : n = 9 := by omega
    exact ⟨rfl, rfl⟩
  · obtain rfl : n = 12 := by omega
    exact ⟨rfl, rfl⟩
  · obtain rfl : n = 13 := by omega
    exact ⟨rfl, rfl⟩
  · obtain rfl : n = 14 := by omega
    exact ⟨rfl, rfl⟩
  · obtain rfl : n = 15 := by omega
    exact ⟨rfl, rfl⟩
  · obtain rfl : n = 16 := by omega
    exact ⟨rfl, rfl⟩
  · obtain rfl : n = 17 := by omega
    exact ⟨rfl, rfl⟩
  · obtain rfl : n = 18 := by omega
    exact ⟨rfl, rfl⟩
  · obtain rfl : n = 19 := by omega
    exact ⟨rfl, rfl⟩
  · obtain rfl : n = 20 := by omega
    exact ⟨rfl, rfl⟩
  · obtain rfl : n = 21 := by omega
    exact ⟨rfl, rfl⟩
  · obtain rfl : n = 22 := by omega
    exact ⟨rfl, rfl⟩
  · obtain rfl : n = 23 := by omega
    exact ⟨rfl, rfl⟩
  · obtain rfl : n = 24 := by omega
    exact ⟨rfl, rfl⟩
  · obtain rfl : n = 25 := by omega
    exact ⟨rfl, rfl⟩
  · obtain rfl : n = 26 := by omega
    exact ⟨rfl, rfl⟩
  · obtain rfl : n = 27 := by omega
    exact ⟨rfl, rfl⟩
  · obtain rfl : n = 28 := by omega
    exact ⟨rfl, rfl⟩
  · obtain rfl : n = 29 := by omega
    exact ⟨rfl, rfl⟩
  · obtain rfl : n = 30 := by omega
    exact ⟨rfl, rfl⟩
  · obtain rfl : n = 31 := by omega
    exact ⟨rfl, rfl⟩
  · obtain rfl : n = 32 := by omega
    exact ⟨rfl, rfl⟩
  · obtain rfl : n = 33 := by omega
    exact ⟨rfl, rfl⟩
  · obtain rfl : n = 34 := by omega
    exact ⟨rfl, rfl⟩
  · obtain rfl : n = 35 := by omega
    exact ⟨rfl, rfl⟩
  · obtain rfl : n = 36 := by omega
    exact ⟨rfl, rfl⟩
  · obtain rfl : n = 37 := by omega
    exact ⟨rfl, rfl⟩
  · obtain rfl : n = 38 := by omega
    exact ⟨rfl, rfl⟩
  · obtain rfl : n = 39 := by omega
    exact ⟨rfl, rfl⟩
  · obtain rfl : n = 40 := by omega
    exact ⟨rfl, rfl⟩
  · obtain rfl : n = 41 := by omega
    exact ⟨rfl, rfl⟩
  · obtain rfl : n = 42 := by omega
    exact ⟨rfl, rfl⟩
  · obtain rfl : n = 43 := by omega
    exact ⟨rfl, rfl⟩
  · obtain rfl : n = 44 := by omega
    exact ⟨rfl, rfl⟩
  · obtain rfl : n = 45 := by omega
    exact ⟨rfl, rfl⟩
  · obtain rfl : n = 46 := by omega
    exact ⟨rfl, rfl⟩
  · obtain rfl : n = 47 := by omega
    exact ⟨rfl, rfl⟩
  · obtain rfl : n = 48 := by omega
    exact ⟨rfl, rfl⟩
  · obtain rfl : n = 49 := by omega
    exact ⟨rfl, rfl⟩
  · obtain rfl : n = 50 := by omega
    exact ⟨rfl, rfl⟩
  · obtain rfl : n = 51 := by omega
    exact ⟨rfl, rfl⟩
  · obtain rfl : n = 52 := by omega
    exact ⟨rfl, rfl⟩
  · obtain rfl : n = 53 := by omega
    exact ⟨rfl, rfl⟩
  · obtain rfl : n = 54 := by omega
    exact ⟨rfl, rfl⟩
  · obtain rfl : n = 55 := by omega
    exact ⟨rfl, rfl⟩
  · obtain rfl : n = 56 := by omega
    exact ⟨rfl, rfl⟩
  · obtain rfl : n = 57 := by omega
    exact ⟨rfl, rfl⟩
  · obtain rfl : n = 58 := by omega
    exact ⟨rfl, rfl⟩
  · obtain rfl : n = 59 := by omega
    exact ⟨rfl, rfl⟩
  · obtain rfl : n = 60 := by omega
    exact ⟨rfl, rfl⟩
  · obtain rfl : n = 61 := by omega
    exact ⟨rfl, rfl⟩
  · obtain rfl : n = 62 := by omega
    exact ⟨rfl, rfl⟩
  · obtain rfl : n = 63 := by omega
    exact ⟨rfl, rfl⟩
theorem qat_lk (bq B : Nat) (qv : Value) (R : List (Int × Int)) (k : Int) (bl : Nat) (hk : k ≠ 0) (w : World) (h : S.QV w B bq qv R) :
    Calls Tryz.prog 139 #[.pointer (some ⟨bq, 0, none⟩), .int .i64 (bl : Int), .int .i64 k] w fun e w' => e = .returned (.tuple #[.int .u16 (lk k bl R).1, .int .i64 (lk k bl R).2]) ∧ Below w.heap.size w w' := by
  unfold lk
  rw [if_neg hk]
  by_cases a : R.length ≤ bl
  · rw [if_pos a]
    exact (S.qat_under bq B qv R (bl : Int) k (.inr (by omega)) w h).mono fun e w' ⟨h1, h2⟩ => ⟨h1, h2 ▸ Below.refl _ _⟩
  · rw [if_neg a]
    obtain ⟨t, ht⟩ : ∃ t, R[R.length - 1 - bl]? = some t := ⟨_, List.getElem?_eq_getElem (by omega)⟩
    obtain ⟨tk, tv⟩ := t
    refine (S.qat_in bq B qv R (R.length - 1 - bl) bl (by omega) tk tv ht k w h).mono fun e w' ⟨h1, h2⟩ => ⟨?_, h2⟩
    rw [h1, ht]
    simp only [Option.getD_some]
    by_cases c : tk = k
    · rw [if_pos c, if_pos c]
    · rw [if_neg c, if_neg c]
theorem plain_n (n : Nat) (hp : plain (n : Int) = true) : 6 ≤ n ∧ n < 64 := by
  unfold plain at hp
  simp at hp
  omega
theorem k_0 (op : Int) (hp : plain op = true) (a : op ≠ 56) (b : op ≠ 57) (c : op ≠ 58) (d : op ≠ 59) : (rw_ op).k = 0 := by
  rcases plain_cases op hp with rfl | rfl | rfl | rfl | rfl | rfl | rfl | rfl | rfl | rfl | rfl | rfl | rfl | rfl | rfl | rfl | rfl | rfl | rfl | rfl | rfl | rfl | rfl | rfl | rfl | rfl | rfl | rfl | rfl | rfl | rfl | rfl | rfl | rfl | rfl | rfl | rfl | rfl | rfl | rfl | rfl | rfl | rfl | rfl | rfl | rfl | rfl | rfl | rfl | rfl | rfl | rfl | rfl | rfl <;> first | rfl | (exact absurd rfl (by assumption))
theorem s_0 (op : Int) (hp : plain op = true) (a : op ≠ 6) (b : op ≠ 55) : (rw_ op).s = 0 := by
  rcases plain_cases op hp with rfl | rfl | rfl | rfl | rfl | rfl | rfl | rfl | rfl | rfl | rfl | rfl | rfl | rfl | rfl | rfl | rfl | rfl | rfl | rfl | rfl | rfl | rfl | rfl | rfl | rfl | rfl | rfl | rfl | rfl | rfl | rfl | rfl | rfl | rfl | rfl | rfl | rfl | rfl | rfl | rfl | rfl | rfl | rfl | rfl | rfl | rfl | rfl | rfl | rfl | rfl | rfl | rfl | rfl <;> first | rfl | (exact absurd rfl (by assumption))
theorem rlooks_any (op : Int) (hp : plain op = true) (bq B : Nat) (qv : Value) (R : List (Int × Int)) (w : World) (h : S.QV w B bq qv R) :
    Calls Tryz.prog 83 #[.int .i64 op, .pointer (some ⟨bq, 0, none⟩)] w fun e w' => e = .returned (.tuple #[.int .u16 (lk (rw_ op).k (rw_ op).bl R).1, .int .i64 (lk (rw_ op).k (rw_ op).bl R).2]) ∧ Below w.heap.size w w' := by
  by_cases h56 : op = 56
  · subst h56
    have ha := qat_lk bq B qv R 4 0 (by decide) w h
    show Calls Tryz.prog 83 #[.int .i64 56, .pointer (some ⟨bq, 0, none⟩)] w fun e w' => e = .returned (.tuple #[.int .u16 (lk 4 0 R).1, .int .i64 (lk 4 0 R).2]) ∧ Below w.heap.size w w'
    generalize lk 4 0 R = t at *
    obtain ⟨t1, t2⟩ := t
    clear h hp
    go_enter Tryz.func83, Tryz.ntmps83
    go_wp2_with fail
    refine ha.mono ?_
    rintro e w1 ⟨rfl, hb⟩
    have HB := S.hid hb
    clear ha hb
    go_wp2
    go_ret2
    exact ⟨rfl, HB.out⟩
  have f56 : (op == 56) = false := beq_eq_false_iff_ne.mpr h56
  by_cases h57 : op = 57
  · subst h57
    have ha := qat_lk bq B qv R 4 0 (by decide) w h
    show Calls Tryz.prog 83 #[.int .i64 57, .pointer (some ⟨bq, 0, none⟩)] w fun e w' => e = .returned (.tuple #[.int .u16 (lk 4 0 R).1, .int .i64 (lk 4 0 R).2]) ∧ Below w.heap.size w w'
    generalize lk 4 0 R = t at *
    obtain ⟨t1, t2⟩ := t
    clear h hp
    go_enter Tryz.func83, Tryz.ntmps83
    go_wp2_with fail
    refine ha.mono ?_
    rintro e w1 ⟨rfl, hb⟩
    have HB := S.hid hb
    clear ha hb
    go_wp2
    go_ret2
    exact ⟨rfl, HB.out⟩
  have f57 : (op == 57) = false := beq_eq_false_iff_ne.mpr h57
  by_cases h58 : op = 58
  · subst h58
    have ha := qat_lk bq B qv R 3 0 (by decide) w h
    show Calls Tryz.prog 83 #[.int .i64 58, .pointer (some ⟨bq, 0, none⟩)] w fun e w' => e = .returned (.tuple #[.int .u16 (lk 3 0 R).1, .int .i64 (lk 3 0 R).2]) ∧ Below w.heap.size w w'
    generalize lk 3 0 R = t at *
    obtain ⟨t1, t2⟩ := t
    clear h hp
    go_enter Tryz.func83, Tryz.ntmps83
    go_wp2_with fail
    refine ha.mono ?_
    rintro e w1 ⟨rfl, hb⟩
    have HB := S.hid hb
    clear ha hb
    go_wp2
    go_ret2
    exact ⟨rfl, HB.out⟩
  have f58 : (op == 58) = false := beq_eq_false_iff_ne.mpr h58
  by_cases h59 : op = 59
  · subst h59
    have ha := qat_lk bq B qv R 3 2 (by decide) w h
    show Calls Tryz.prog 83 #[.int .i64 59, .pointer (some ⟨bq, 0, none⟩)] w fun e w' => e = .returned (.tuple #[.int .u16 (lk 3 2 R).1, .int .i64 (lk 3 2 R).2]) ∧ Below w.heap.size w w'
    generalize lk 3 2 R = t at *
    obtain ⟨t1, t2⟩ := t
    clear h hp
    go_enter Tryz.func83, Tryz.ntmps83
    go_wp2_with fail
    refine ha.mono ?_
    rintro e w1 ⟨rfl, hb⟩
    have HB := S.hid hb
    clear ha hb
    go_wp2
    go_ret2
    exact ⟨rfl, HB.out⟩
  have f59 : (op == 59) = false := beq_eq_false_iff_ne.mpr h59
  rw [k_0 op hp h56 h57 h58 h59]
  unfold lk
  rw [if_pos rfl]
  clear h hp
  go_enter Tryz.func83, Tryz.ntmps83
  go_wp2
  go_ret2
  exact ⟨rfl, Below.refl _ _⟩
theorem fl_need {op : Int} {D : List Int} {R : List (Int × Int)} (h : S.need D.length (rw_ op).i (rw_ op).o ≠ 0) : fl op D R = S.need D.length (rw_ op).i (rw_ op).o := by
  unfold fl flt; rw [if_pos h]
theorem fl_lk {op : Int} {D : List Int} {R : List (Int × Int)} (h : S.need D.length (rw_ op).i (rw_ op).o = 0) (k : (lk (rw_ op).k (rw_ op).bl R).2 ≠ 0) : fl op D R = (lk (rw_ op).k (rw_ op).bl R).2 := by
  unfold fl flt; rw [if_neg (by simpa using h), if_pos k]
theorem fl_s {op : Int} {D : List Int} {R : List (Int × Int)} (h : S.need D.length (rw_ op).i (rw_ op).o = 0) (k : (lk (rw_ op).k (rw_ op).bl R).2 = 0) : fl op D R = if 128 < R.length + (rw_ op).s then 4 else 0 := by
  unfold fl flt; rw [if_neg (by simpa using h), if_neg (by simpa using k)]
theorem rmay_any (n : Nat) (hp : plain (n : Int) = true) (be bq B : Nat) (ev qv : Value) (D : List Int) (R : List (Int × Int)) (w : World) (hx : S.EV w B be ev D) (hy : S.QV w B bq qv R) :
    Calls Tryz.prog 54 #[.int .i64 (n : Int), .pointer (some ⟨be, 0, none⟩), .pointer (some ⟨bq, 0, none⟩)] w fun e w' => e = .returned (.int .i64 (fl (n : Int) D R)) ∧ Below w.heap.size w w' := by
  obtain ⟨hn1, hn2⟩ := plain_n n hp
  obtain ⟨hri, hro⟩ := ri_is n hp
  have hRl := hy.len
  have kr := rrow_at n (by omega) hn2 w
  unfold rowN rowV at kr
  rw [hri, hro] at kr
  have HX := S.hid hx
  have HY := S.hid hy
  clear hx hy hri hro
  go_enter Tryz.func54, Tryz.ntmps54
  go_wp2_with fail
  refine kr.mono ?_
  rintro e w1 ⟨rfl, hb1⟩
  obtain ⟨z4, r4, b4⟩ := mkRow6 w1 #[.int .i64 0, .string { data := #[] }, .int .i64 0, .int .i64 0, .int .i64 0, .bool false] #[.int .i64 (n : Int), .string (nm n), .int .i64 ((rw_ (n : Int)).i : Int), .int .i64 ((rw_ (n : Int)).o : Int), .int .i64 (rc n), .bool (rb n)] 57
  have hb2 : Below w.heap.size w ((w1.alloc (.cells #[.int .i64 0, .string { data := #[] }, .int .i64 0, .int .i64 0, .int .i64 0, .bool false] 57)).setRow w1.heap.size #[.int .i64 (n : Int), .string (nm n), .int .i64 ((rw_ (n : Int)).i : Int), .int .i64 ((rw_ (n : Int)).o : Int), .int .i64 (rc n), .bool (rb n)]) := hb1.trans (b4.mono hb1.size)
  have x2 := S.cell_of _ w1.heap.size 2 [.int .i64 (n : Int), .string (nm n), .int .i64 ((rw_ (n : Int)).i : Int), .int .i64 ((rw_ (n : Int)).o : Int), .int .i64 (rc n), .bool (rb n)] _ _ r4 rfl
  have x3 := S.cell_of _ w1.heap.size 3 [.int .i64 (n : Int), .string (nm n), .int .i64 ((rw_ (n : Int)).i : Int), .int .i64 ((rw_ (n : Int)).o : Int), .int .i64 (rc n), .bool (rb n)] _ _ r4 rfl
  have ex : S.EV ((w1.alloc (.cells #[.int .i64 0, .string { data := #[] }, .int .i64 0, .int .i64 0, .int .i64 0, .bool false] 57)).setRow w1.heap.size #[.int .i64 (n : Int), .string (nm n), .int .i64 ((rw_ (n : Int)).i : Int), .int .i64 ((rw_ (n : Int)).o : Int), .int .i64 (rc n), .bool (rb n)]) B be ev D := ⟨(hb2.block _ (S.lt_of HX.out.blk)).trans HX.out.blk, S.own_kept HX.out.row fun g e hg => hb2.block g hg, HX.out.hb, HX.out.len⟩
  have ey : S.QV ((w1.alloc (.cells #[.int .i64 0, .string { data := #[] }, .int .i64 0, .int .i64 0, .int .i64 0, .bool false] 57)).setRow w1.heap.size #[.int .i64 (n : Int), .string (nm n), .int .i64 ((rw_ (n : Int)).i : Int), .int .i64 ((rw_ (n : Int)).o : Int), .int .i64 (rc n), .bool (rb n)]) B bq qv R := ⟨(hb2.block _ (S.lt_of HY.out.blk)).trans HY.out.blk, S.own_kept HY.out.row fun g e hg => hb2.block g hg, HY.out.hb, HY.out.len⟩
  have kn := S.eneed be B ev D ((rw_ (n : Int)).i : Int) ((rw_ (n : Int)).o : Int) _ ex
  have HEY := S.hid ey
  have HB2 := S.hid hb2
  clear kr hb1 b4 hb2 ex ey HX HY r4
  go_wp2_with (refine wpList_store_row rfl 57 _ _ rfl w1.heap.size _ rfl rfl 57 #[.int .i64 0, .string { data := #[] }, .int .i64 0, .int .i64 0, .int .i64 0, .bool false] z4 (by exact sizeP6m) (by rfl) (by simp [Value.oneCell']) ?_)
  generalize ((w1.alloc (.cells #[.int .i64 0, .string { data := #[] }, .int .i64 0, .int .i64 0, .int .i64 0, .bool false] 57)).setRow w1.heap.size #[.int .i64 (n : Int), .string (nm n), .int .i64 ((rw_ (n : Int)).i : Int), .int .i64 ((rw_ (n : Int)).o : Int), .int .i64 (rc n), .bool (rb n)]) = W4 at *
  clear z4
  refine kn.mono ?_
  rintro e w5 ⟨rfl, hw5⟩
  subst hw5
  clear kn x2 x3
  by_cases hnd : S.need D.length (rw_ (n : Int)).i (rw_ (n : Int)).o = 0
  case neg =>
    have HE := S.hid (fl_need (R := R) hnd)
    generalize S.need D.length (rw_ (n : Int)).i (rw_ (n : Int)).o = nd at *
    have f1 : (nd != 0) = true := by simpa using hnd
    clear HEY
    go_wp2
    go_ret
    exact ⟨(by rw [HE.out] <;> rfl), HB2.out⟩
  rw [hnd]
  have kl := rlooks_any (n : Int) hp bq B qv R _ HEY.out
  go_wp2_with fail
  refine kl.mono ?_
  rintro e w6 ⟨rfl, hb6⟩
  have HB6 := S.hid (HB2.out.trans (hb6.mono HB2.out.size))
  have hq6 : w6.heap[bq]? = _ := (hb6.block _ (S.lt_of HEY.out.blk)).trans HEY.out.blk
  obtain ⟨pq, cq, eq⟩ := S.ex_slice HEY.out.row
  subst eq
  have c6 := S.cell_of w6 bq 0 _ _ _ hq6 rfl
  clear kl hb6 HB2 HEY hq6
  by_cases hlk : (lk (rw_ (n : Int)).k (rw_ (n : Int)).bl R).2 = 0
  case neg =>
    have HE := S.hid (fl_lk hnd hlk)
    generalize lk (rw_ (n : Int)).k (rw_ (n : Int)).bl R = t at *
    obtain ⟨t1, t2⟩ := t
    have f1 : (t2 != 0) = true := by simpa using hlk
    go_wp2
    go_ret
    exact ⟨(by rw [HE.out] <;> rfl), HB6.out⟩
  have HE := S.hid (fl_s hnd hlk)
  generalize lk (rw_ (n : Int)).k (rw_ (n : Int)).bl R = t at *
  obtain ⟨t1, t2⟩ := t
  simp only at hlk
  subst hlk
  by_cases h55 : n = 55
  · subst h55
    by_cases hc : R.length = 128
    · have g1 : decide ((128 : Int) ≤ (R.length : Int)) = true := decide_eq_true (by omega)
      go_wp2
      go_ret
      exact ⟨(by rw [HE.out, if_pos (by show 128 < R.length + 1; omega)] <;> rfl), HB6.out⟩
    · have g1 : decide ((128 : Int) ≤ (R.length : Int)) = false := decide_eq_false (by omega)
      go_wp2
      go_ret
      exact ⟨(by rw [HE.out, if_neg (by show ¬ 128 < R.length + 1; omega)] <;> rfl), HB6.out⟩
  by_cases h6 : n = 6
  · subst h6
    by_cases hc : 126 < R.length
    · have g1 : decide ((126 : Int) < (R.length : Int)) = true := decide_eq_true (by omega)
      go_wp2
      go_ret
      exact ⟨(by rw [HE.out, if_pos (by show 128 < R.length + 2; omega)] <;> rfl), HB6.out⟩
    · have g1 : decide ((126 : Int) < (R.length : Int)) = false := decide_eq_false (by omega)
      go_wp2
      go_ret
      exact ⟨(by rw [HE.out, if_neg (by show ¬ 128 < R.length + 2; omega)] <;> rfl), HB6.out⟩
  have g1 : ((n : Int) == 55) = false := beq_eq_false_iff_ne.mpr (by omega)
  have g2 : ((n : Int) == 6) = false := beq_eq_false_iff_ne.mpr (by omega)
  go_wp2
  go_ret
  exact ⟨(by rw [HE.out, if_neg (by rw [s_0 (n : Int) hp (by omega) (by omega)]; omega)] <;> rfl), HB6.out⟩
end Go.Proofs.YtgponcjjnjpfkabGreat.L
/-! The reference's shuffles. -/
namespace Go.Proofs.YtgponcjjnjpfkabGreat.L
open Go.RowKit
open Go.Proofs
open P
set_option linter.unusedVariables false
set_option linter.unusedSimpArgs false
set_option maxHeartbeats 4000000
set_option maxRecDepth 100000
theorem bcell {W W' : World} (b : Below W.heap.size W W') {a : Addr} {u : Value} (e : W.cell? a = some u) : W'.cell? a = some u := by rw [b.cell (World.block_lt_of_cell? W a e)]; exact e
theorem nil_ls (w : World) : S.Ls S.eU 1 w (.slice none 0 0) [] := .inl ⟨rfl, rfl⟩
theorem bda (w : World) (o : Obj) : Below w.heap.size w (w.drew.alloc o) := ((Below.refl _ w).drew).alloc (Nat.le_refl _) _
theorem one_ls (w : World) (x : Int) : S.Ls S.eU 1 (w.alloc (.cells #[.int .u16 x] 31)) (.slice (some ⟨w.heap.size, 0, none⟩) 1 1) [x] := .inr ⟨_, _, rfl, Nat.le_refl _, sl_block S.hU _ _ 31 [x] (heap_alloc_new _ _)⟩
theorem sh_12 (g c : Nat) (hc : 1 ≤ c) (x : Int) (w : World) (h0 : w.cell? ⟨g, 0, none⟩ = some (.int .u16 x)) :
    Calls Tryz.prog 56 #[.int .i64 12, .slice (some ⟨g, 0, none⟩) 1 c] w fun e w' => ∃ v, e = .returned v ∧ S.Ls S.eU 1 w' v [x, x] ∧ Below w.heap.size w w' := by
  have sA : ∀ W', Below w.heap.size w W' → (fun w' : World => w'.cell? ⟨g, 0, none⟩ = some (.int .u16 x)) W' := fun W' k => bcell k h0
  have HSA := S.hid sA
  have s0 := sA _ ((Below.refl _ w).drew)
  clear sA h0
  go_enter Tryz.func56, Tryz.ntmps56
  go_upto_region 3 with fail
  try simp only [Act.put, List.getElem_toArray, List.getElem_cons_zero, List.getElem_cons_succ, List.setIfInBounds_toArray, List.set_cons_zero, List.set_cons_succ]
  refine wp_region_held_drew (S := (fun w' : World => w'.cell? ⟨g, 0, none⟩ = some (.int .u16 x))) (by kernel_rfl) s0 (fun hHeld => ?_)
  clear s0
  refine wpAnyH_take (i := 0) (v := ?_) rfl (by kernel_rfl) (by kernel_rfl) (by kernel_rfl) (fun c a w h => h) (Or.inl ⟨by rfl, ?_⟩) hHeld ?_
  rotate_left
  · (intro w hSw; (try dsimp only at hSw); go_simp; try with_reducible rfl)
  simp only [Act.put, List.getElem_toArray, List.getElem_cons_zero, List.getElem_cons_succ, List.setIfInBounds_toArray, List.set_cons_zero, List.set_cons_succ]
  refine wpAnyH_take (i := 1) (v := ?_) rfl (by kernel_rfl) (by kernel_rfl) (by kernel_rfl) (fun c a w h => h) (Or.inl ⟨by rfl, ?_⟩) hHeld ?_
  rotate_left
  · (intro w hSw; (try dsimp only at hSw); go_simp; try with_reducible rfl)
  simp only [Act.put, List.getElem_toArray, List.getElem_cons_zero, List.getElem_cons_succ, List.setIfInBounds_toArray, List.set_cons_zero, List.set_cons_succ]
  refine wpAnyH_take (i := 2) (v := ?_) rfl (by kernel_rfl) (by kernel_rfl) (by kernel_rfl) (fun c a w h => h) (Or.inl ⟨by rfl, ?_⟩) hHeld ?_
  rotate_left
  · (intro w hSw; (try dsimp only at hSw); go_simp; try with_reducible rfl)
  simp only [Act.put, List.getElem_toArray, List.getElem_cons_zero, List.getElem_cons_succ, List.setIfInBounds_toArray, List.set_cons_zero, List.set_cons_succ]
  refine wpAnyH_take (i := 3) (v := ?_) rfl (by kernel_rfl) (by kernel_rfl) (by kernel_rfl) (fun c a w h => h) (Or.inl ⟨by rfl, ?_⟩) hHeld ?_
  rotate_left
  · (intro w hSw; (try dsimp only at hSw); go_simp; try with_reducible rfl)
  simp only [Act.put, List.getElem_toArray, List.getElem_cons_zero, List.getElem_cons_succ, List.setIfInBounds_toArray, List.set_cons_zero, List.set_cons_succ]
  refine wpAnyH_take (i := 4) (v := ?_) rfl (by kernel_rfl) (by kernel_rfl) (by kernel_rfl) (fun c a w h => h) (Or.inl ⟨by rfl, ?_⟩) hHeld ?_
  rotate_left
  · (intro w hSw; (try dsimp only at hSw); go_simp; try with_reducible rfl)
  simp only [Act.put, List.getElem_toArray, List.getElem_cons_zero, List.getElem_cons_succ, List.setIfInBounds_toArray, List.set_cons_zero, List.set_cons_succ]
  refine wpAnyH_take (i := 5) (v := ?_) rfl (by kernel_rfl) (by kernel_rfl) (by kernel_rfl) (fun c a w h => h) (Or.inl ⟨by rfl, ?_⟩) hHeld ?_
  rotate_left
  · (intro w hSw; (try dsimp only at hSw); go_simp; try with_reducible rfl)
  simp only [Act.put, List.getElem_toArray, List.getElem_cons_zero, List.getElem_cons_succ, List.setIfInBounds_toArray, List.set_cons_zero, List.set_cons_succ]
  have s1 := fun o => HSA.out _ (bda w o)
  refine wpAnyH_ready (rs := [6]) (by kernel_rfl) (by simp) ?_
  refine AllReadyH.cons rfl (fun K hK => ?_) AllReadyH.nil
  go_simp
  refine hK.out _ _ (s1 _) (fun hHeld => ?_)
  clear hK K
  try simp only [Act.put, List.getElem_toArray, List.getElem_cons_zero, List.getElem_cons_succ, List.setIfInBounds_toArray, List.set_cons_zero, List.set_cons_succ]
  refine wpAnyH_ready (rs := [7]) (by kernel_rfl) (by simp) ?_
  refine AllReadyH.cons rfl (fun K hK => ?_) AllReadyH.nil
  go_simp
  refine hK.out _ _ (s1 _) (fun hHeld => ?_)
  clear hK K
  refine wpAnyH_done (by kernel_rfl) ?_ _
  clear hHeld s1 HSA
  try simp only [Act.put, List.getElem_toArray, List.getElem_cons_zero, List.getElem_cons_succ, List.setIfInBounds_toArray, List.set_cons_zero, List.set_cons_succ]
  go_wp2
  go_ret
  exact ⟨_, rfl, (.inr ⟨_, _, rfl, Nat.le_refl _, sl_block S.hU _ _ 31 [x, x] (heap_alloc_new _ _)⟩), bda _ _⟩
theorem sh_13 (g c : Nat) (hc : 1 ≤ c) (x : Int) (w : World) (h0 : w.cell? ⟨g, 0, none⟩ = some (.int .u16 x)) :
    Calls Tryz.prog 56 #[.int .i64 13, .slice (some ⟨g, 0, none⟩) 1 c] w fun e w' => ∃ v, e = .returned v ∧ S.Ls S.eU 1 w' v [] ∧ Below w.heap.size w w' := by
  clear h0
  go_enter Tryz.func56, Tryz.ntmps56
  go_wp2
  go_ret
  exact ⟨_, rfl, nil_ls _, Below.refl _ _⟩
theorem sh_14 (g c : Nat) (hc : 2 ≤ c) (x y : Int) (w : World) (h0 : w.cell? ⟨g, 0, none⟩ = some (.int .u16 x)) (h1 : w.cell? ⟨g, 1, none⟩ = some (.int .u16 y)) :
    Calls Tryz.prog 56 #[.int .i64 14, .slice (some ⟨g, 0, none⟩) 2 c] w fun e w' => ∃ v, e = .returned v ∧ S.Ls S.eU 1 w' v [y, x] ∧ Below w.heap.size w w' := by
  have sA : ∀ W', Below w.heap.size w W' → (fun w' : World => w'.cell? ⟨g, 0, none⟩ = some (.int .u16 x) ∧ w'.cell? ⟨g, 1, none⟩ = some (.int .u16 y)) W' := fun W' k => ⟨bcell k h0, bcell k h1⟩
  have HSA := S.hid sA
  have s0 := sA _ ((Below.refl _ w).drew)
  clear sA h0 h1
  go_enter Tryz.func56, Tryz.ntmps56
  go_upto_region 5 with fail
  try simp only [Act.put, List.getElem_toArray, List.getElem_cons_zero, List.getElem_cons_succ, List.setIfInBounds_toArray, List.set_cons_zero, List.set_cons_succ]
  refine wp_region_held_drew (S := (fun w' : World => w'.cell? ⟨g, 0, none⟩ = some (.int .u16 x) ∧ w'.cell? ⟨g, 1, none⟩ = some (.int .u16 y))) (by kernel_rfl) s0 (fun hHeld => ?_)
  clear s0
  refine wpAnyH_take (i := 0) (v := ?_) rfl (by kernel_rfl) (by kernel_rfl) (by kernel_rfl) (fun c a w h => h) (Or.inl ⟨by rfl, ?_⟩) hHeld ?_
  rotate_left
  · (intro w hSw; (try dsimp only at hSw); go_simp; try with_reducible rfl)
  simp only [Act.put, List.getElem_toArray, List.getElem_cons_zero, List.getElem_cons_succ, List.setIfInBounds_toArray, List.set_cons_zero, List.set_cons_succ]
  refine wpAnyH_take (i := 1) (v := ?_) rfl (by kernel_rfl) (by kernel_rfl) (by kernel_rfl) (fun c a w h => h) (Or.inl ⟨by rfl, ?_⟩) hHeld ?_
  rotate_left
  · (intro w hSw; (try dsimp only at hSw); go_simp; try with_reducible rfl)
  simp only [Act.put, List.getElem_toArray, List.getElem_cons_zero, List.getElem_cons_succ, List.setIfInBounds_toArray, List.set_cons_zero, List.set_cons_succ]
  refine wpAnyH_take (i := 2) (v := ?_) rfl (by kernel_rfl) (by kernel_rfl) (by kernel_rfl) (fun c a w h => h) (Or.inl ⟨by rfl, ?_⟩) hHeld ?_
  rotate_left
  · (intro w hSw; (try dsimp only at hSw); go_simp; try with_reducible rfl)
  simp only [Act.put, List.getElem_toArray, List.getElem_cons_zero, List.getElem_cons_succ, List.setIfInBounds_toArray, List.set_cons_zero, List.set_cons_succ]
  refine wpAnyH_take (i := 3) (v := ?_) rfl (by kernel_rfl) (by kernel_rfl) (by kernel_rfl) (fun c a w h => h) (Or.inl ⟨by rfl, ?_⟩) hHeld ?_
  rotate_left
  · (intro w hSw; (try dsimp only at hSw); go_simp; try with_reducible rfl)
  simp only [Act.put, List.getElem_toArray, List.getElem_cons_zero, List.getElem_cons_succ, List.setIfInBounds_toArray, List.set_cons_zero, List.set_cons_succ]
  refine wpAnyH_take (i := 4) (v := ?_) rfl (by kernel_rfl) (by kernel_rfl) (by kernel_rfl) (fun c a w h => h) (Or.inl ⟨by rfl, ?_⟩) hHeld ?_
  rotate_left
  · (intro w hSw; (try dsimp only at hSw); go_simp; try with_reducible rfl)
  simp only [Act.put, List.getElem_toArray, List.getElem_cons_zero, List.getElem_cons_succ, List.setIfInBounds_toArray, List.set_cons_zero, List.set_cons_succ]
  refine wpAnyH_take (i := 5) (v := ?_) rfl (by kernel_rfl) (by kernel_rfl) (by kernel_rfl) (fun c a w h => h) (Or.inl ⟨by rfl, ?_⟩) hHeld ?_
  rotate_left
  · (intro w hSw; (try dsimp only at hSw); go_simp; try with_reducible rfl)
  simp only [Act.put, List.getElem_toArray, List.getElem_cons_zero, List.getElem_cons_succ, List.setIfInBounds_toArray, List.set_cons_zero, List.set_cons_succ]
  have s1 := fun o => HSA.out _ (bda w o)
  refine wpAnyH_ready (rs := [6]) (by kernel_rfl) (by simp) ?_
  refine AllReadyH.cons rfl (fun K hK => ?_) AllReadyH.nil
  go_simp
  refine hK.out _ _ (s1 _) (fun hHeld => ?_)
  clear hK K
  try simp only [Act.put, List.getElem_toArray, List.getElem_cons_zero, List.getElem_cons_succ, List.setIfInBounds_toArray, List.set_cons_zero, List.set_cons_succ]
  refine wpAnyH_ready (rs := [7]) (by kernel_rfl) (by simp) ?_
  refine AllReadyH.cons rfl (fun K hK => ?_) AllReadyH.nil
  go_simp
  refine hK.out _ _ (s1 _) (fun hHeld => ?_)
  clear hK K
  refine wpAnyH_done (by kernel_rfl) ?_ _
  clear hHeld s1 HSA
  try simp only [Act.put, List.getElem_toArray, List.getElem_cons_zero, List.getElem_cons_succ, List.setIfInBounds_toArray, List.set_cons_zero, List.set_cons_succ]
  go_wp2
  go_ret
  exact ⟨_, rfl, (.inr ⟨_, _, rfl, Nat.le_refl _, sl_block S.hU _ _ 31 [y, x] (heap_alloc_new _ _)⟩), bda _ _⟩
theorem sh_15 (g c : Nat) (hc : 2 ≤ c) (x y : Int) (w : World) (h0 : w.cell? ⟨g, 0, none⟩ = some (.int .u16 x)) (h1 : w.cell? ⟨g, 1, none⟩ = some (.int .u16 y)) :
    Calls Tryz.prog 56 #[.int .i64 15, .slice (some ⟨g, 0, none⟩) 2 c] w fun e w' => ∃ v, e = .returned v ∧ S.Ls S.eU 1 w' v [x, y, x] ∧ Below w.heap.size w w' := by
  have sA : ∀ W', Below w.heap.size w W' → (fun w' : World => w'.cell? ⟨g, 0, none⟩ = some (.int .u16 x) ∧ w'.cell? ⟨g, 1, none⟩ = some (.int .u16 y)) W' := fun W' k => ⟨bcell k h0, bcell k h1⟩
  have HSA := S.hid sA
  have s0 := sA _ ((Below.refl _ w).drew)
  clear sA h0 h1
  go_enter Tryz.func56, Tryz.ntmps56
  go_upto_region 7 with fail
  try simp only [Act.put, List.getElem_toArray, List.getElem_cons_zero, List.getElem_cons_succ, List.setIfInBounds_toArray, List.set_cons_zero, List.set_cons_succ]
  refine wp_region_held_drew (S := (fun w' : World => w'.cell? ⟨g, 0, none⟩ = some (.int .u16 x) ∧ w'.cell? ⟨g, 1, none⟩ = some (.int .u16 y))) (by kernel_rfl) s0 (fun hHeld => ?_)
  clear s0
  refine wpAnyH_take (i := 0) (v := ?_) rfl (by kernel_rfl) (by kernel_rfl) (by kernel_rfl) (fun c a w h => h) (Or.inl ⟨by rfl, ?_⟩) hHeld ?_
  rotate_left
  · (intro w hSw; (try dsimp only at hSw); go_simp; try with_reducible rfl)
  simp only [Act.put, List.getElem_toArray, List.getElem_cons_zero, List.getElem_cons_succ, List.setIfInBounds_toArray, List.set_cons_zero, List.set_cons_succ]
  refine wpAnyH_take (i := 1) (v := ?_) rfl (by kernel_rfl) (by kernel_rfl) (by kernel_rfl) (fun c a w h => h) (Or.inl ⟨by rfl, ?_⟩) hHeld ?_
  rotate_left
  · (intro w hSw; (try dsimp only at hSw); go_simp; try with_reducible rfl)
  simp only [Act.put, List.getElem_toArray, List.getElem_cons_zero, List.getElem_cons_succ, List.setIfInBounds_toArray, List.set_cons_zero, List.set_cons_succ]
  refine wpAnyH_take (i := 2) (v := ?_) rfl (by kernel_rfl) (by kernel_rfl) (by kernel_rfl) (fun c a w h => h) (Or.inl ⟨by rfl, ?_⟩) hHeld ?_
  rotate_left
  · (intro w hSw; (try dsimp only at hSw); go_simp; try with_reducible rfl)
  simp only [Act.put, List.getElem_toArray, List.getElem_cons_zero, List.getElem_cons_succ, List.setIfInBounds_toArray, List.set_cons_zero, List.set_cons_succ]
  refine wpAnyH_take (i := 3) (v := ?_) rfl (by kernel_rfl) (by kernel_rfl) (by kernel_rfl) (fun c a w h => h) (Or.inl ⟨by rfl, ?_⟩) hHeld ?_
  rotate_left
  · (intro w hSw; (try dsimp only at hSw); go_simp; try with_reducible rfl)
  simp only [Act.put, List.getElem_toArray, List.getElem_cons_zero, List.getElem_cons_succ, List.setIfInBounds_toArray, List.set_cons_zero, List.set_cons_succ]
  refine wpAnyH_take (i := 4) (v := ?_) rfl (by kernel_rfl) (by kernel_rfl) (by kernel_rfl) (fun c a w h => h) (Or.inl ⟨by rfl, ?_⟩) hHeld ?_
  rotate_left
  · (intro w hSw; (try dsimp only at hSw); go_simp; try with_reducible rfl)
  simp only [Act.put, List.getElem_toArray, List.getElem_cons_zero, List.getElem_cons_succ, List.setIfInBounds_toArray, List.set_cons_zero, List.set_cons_succ]
  refine wpAnyH_take (i := 5) (v := ?_) rfl (by kernel_rfl) (by kernel_rfl) (by kernel_rfl) (fun c a w h => h) (Or.inl ⟨by rfl, ?_⟩) hHeld ?_
  rotate_left
  · (intro w hSw; (try dsimp only at hSw); go_simp; try with_reducible rfl)
  simp only [Act.put, List.getElem_toArray, List.getElem_cons_zero, List.getElem_cons_succ, List.setIfInBounds_toArray, List.set_cons_zero, List.set_cons_succ]
  refine wpAnyH_take (i := 6) (v := ?_) rfl (by kernel_rfl) (by kernel_rfl) (by kernel_rfl) (fun c a w h => h) (Or.inl ⟨by rfl, ?_⟩) hHeld ?_
  rotate_left
  · (intro w hSw; (try dsimp only at hSw); go_simp; try with_reducible rfl)
  simp only [Act.put, List.getElem_toArray, List.getElem_cons_zero, List.getElem_cons_succ, List.setIfInBounds_toArray, List.set_cons_zero, List.set_cons_succ]
  refine wpAnyH_take (i := 7) (v := ?_) rfl (by kernel_rfl) (by kernel_rfl) (by kernel_rfl) (fun c a w h => h) (Or.inl ⟨by rfl, ?_⟩) hHeld ?_
  rotate_left
  · (intro w hSw; (try dsimp only at hSw); go_simp; try with_reducible rfl)
  simp only [Act.put, List.getElem_toArray, List.getElem_cons_zero, List.getElem_cons_succ, List.setIfInBounds_toArray, List.set_cons_zero, List.set_cons_succ]
  refine wpAnyH_take (i := 8) (v := ?_) rfl (by kernel_rfl) (by kernel_rfl) (by kernel_rfl) (fun c a w h => h) (Or.inl ⟨by rfl, ?_⟩) hHeld ?_
  rotate_left
  · (intro w hSw; (try dsimp only at hSw); go_simp; try with_reducible rfl)
  simp only [Act.put, List.getElem_toArray, List.getElem_cons_zero, List.getElem_cons_succ, List.setIfInBounds_toArray, List.set_cons_zero, List.set_cons_succ]
  have s1 := fun o => HSA.out _ (bda w o)
  refine wpAnyH_ready (rs := [9]) (by kernel_rfl) (by simp) ?_
  refine AllReadyH.cons rfl (fun K hK => ?_) AllReadyH.nil
  go_simp
  refine hK.out _ _ (s1 _) (fun hHeld => ?_)
  clear hK K
  try simp only [Act.put, List.getElem_toArray, List.getElem_cons_zero, List.getElem_cons_succ, List.setIfInBounds_toArray, List.set_cons_zero, List.set_cons_succ]
  refine wpAnyH_ready (rs := [10]) (by kernel_rfl) (by simp) ?_
  refine AllReadyH.cons rfl (fun K hK => ?_) AllReadyH.nil
  go_simp
  refine hK.out _ _ (s1 _) (fun hHeld => ?_)
  clear hK K
  refine wpAnyH_done (by kernel_rfl) ?_ _
  clear hHeld s1 HSA
  try simp only [Act.put, List.getElem_toArray, List.getElem_cons_zero, List.getElem_cons_succ, List.setIfInBounds_toArray, List.set_cons_zero, List.set_cons_succ]
  go_wp2
  go_ret
  exact ⟨_, rfl, (.inr ⟨_, _, rfl, Nat.le_refl _, sl_block S.hU _ _ 31 [x, y, x] (heap_alloc_new _ _)⟩), bda _ _⟩
theorem sh_16 (g c : Nat) (hc : 3 ≤ c) (x y z : Int) (w : World) (h0 : w.cell? ⟨g, 0, none⟩ = some (.int .u16 x)) (h1 : w.cell? ⟨g, 1, none⟩ = some (.int .u16 y)) (h2 : w.cell? ⟨g, 2, none⟩ = some (.int .u16 z)) :
    Calls Tryz.prog 56 #[.int .i64 16, .slice (some ⟨g, 0, none⟩) 3 c] w fun e w' => ∃ v, e = .returned v ∧ S.Ls S.eU 1 w' v [y, z, x] ∧ Below w.heap.size w w' := by
  have sA : ∀ W', Below w.heap.size w W' → (fun w' : World => w'.cell? ⟨g, 0, none⟩ = some (.int .u16 x) ∧ w'.cell? ⟨g, 1, none⟩ = some (.int .u16 y) ∧ w'.cell? ⟨g, 2, none⟩ = some (.int .u16 z)) W' := fun W' k => ⟨bcell k h0, bcell k h1, bcell k h2⟩
  have HSA := S.hid sA
  have s0 := sA _ ((Below.refl _ w).drew)
  clear sA h0 h1 h2
  go_enter Tryz.func56, Tryz.ntmps56
  go_upto_region 9 with fail
  try simp only [Act.put, List.getElem_toArray, List.getElem_cons_zero, List.getElem_cons_succ, List.setIfInBounds_toArray, List.set_cons_zero, List.set_cons_succ]
  refine wp_region_held_drew (S := (fun w' : World => w'.cell? ⟨g, 0, none⟩ = some (.int .u16 x) ∧ w'.cell? ⟨g, 1, none⟩ = some (.int .u16 y) ∧ w'.cell? ⟨g, 2, none⟩ = some (.int .u16 z))) (by kernel_rfl) s0 (fun hHeld => ?_)
  clear s0
  refine wpAnyH_take (i := 0) (v := ?_) rfl (by kernel_rfl) (by kernel_rfl) (by kernel_rfl) (fun c a w h => h) (Or.inl ⟨by rfl, ?_⟩) hHeld ?_
  rotate_left
  · (intro w hSw; (try dsimp only at hSw); go_simp; try with_reducible rfl)
  simp only [Act.put, List.getElem_toArray, List.getElem_cons_zero, List.getElem_cons_succ, List.setIfInBounds_toArray, List.set_cons_zero, List.set_cons_succ]
  refine wpAnyH_take (i := 1) (v := ?_) rfl (by kernel_rfl) (by kernel_rfl) (by kernel_rfl) (fun c a w h => h) (Or.inl ⟨by rfl, ?_⟩) hHeld ?_
  rotate_left
  · (intro w hSw; (try dsimp only at hSw); go_simp; try with_reducible rfl)
  simp only [Act.put, List.getElem_toArray, List.getElem_cons_zero, List.getElem_cons_succ, List.setIfInBounds_toArray, List.set_cons_zero, List.set_cons_succ]
  refine wpAnyH_take (i := 2) (v := ?_) rfl (by kernel_rfl) (by kernel_rfl) (by kernel_rfl) (fun c a w h => h) (Or.inl ⟨by rfl, ?_⟩) hHeld ?_
  rotate_left
  · (intro w hSw; (try dsimp only at hSw); go_simp; try with_reducible rfl)
  simp only [Act.put, List.getElem_toArray, List.getElem_cons_zero, List.getElem_cons_succ, List.setIfInBounds_toArray, List.set_cons_zero, List.set_cons_succ]
  refine wpAnyH_take (i := 3) (v := ?_) rfl (by kernel_rfl) (by kernel_rfl) (by kernel_rfl) (fun c a w h => h) (Or.inl ⟨by rfl, ?_⟩) hHeld ?_
  rotate_left
  · (intro w hSw; (try dsimp only at hSw); go_simp; try with_reducible rfl)
  simp only [Act.put, List.getElem_toArray, List.getElem_cons_zero, List.getElem_cons_succ, List.setIfInBounds_toArray, List.set_cons_zero, List.set_cons_succ]
  refine wpAnyH_take (i := 4) (v := ?_) rfl (by kernel_rfl) (by kernel_rfl) (by kernel_rfl) (fun c a w h => h) (Or.inl ⟨by rfl, ?_⟩) hHeld ?_
  rotate_left
  · (intro w hSw; (try dsimp only at hSw); go_simp; try with_reducible rfl)
  simp only [Act.put, List.getElem_toArray, List.getElem_cons_zero, List.getElem_cons_succ, List.setIfInBounds_toArray, List.set_cons_zero, List.set_cons_succ]
  refine wpAnyH_take (i := 5) (v := ?_) rfl (by kernel_rfl) (by kernel_rfl) (by kernel_rfl) (fun c a w h => h) (Or.inl ⟨by rfl, ?_⟩) hHeld ?_
  rotate_left
  · (intro w hSw; (try dsimp only at hSw); go_simp; try with_reducible rfl)
  simp only [Act.put, List.getElem_toArray, List.getElem_cons_zero, List.getElem_cons_succ, List.setIfInBounds_toArray, List.set_cons_zero, List.set_cons_succ]
  refine wpAnyH_take (i := 6) (v := ?_) rfl (by kernel_rfl) (by kernel_rfl) (by kernel_rfl) (fun c a w h => h) (Or.inl ⟨by rfl, ?_⟩) hHeld ?_
  rotate_left
  · (intro w hSw; (try dsimp only at hSw); go_simp; try with_reducible rfl)
  simp only [Act.put, List.getElem_toArray, List.getElem_cons_zero, List.getElem_cons_succ, List.setIfInBounds_toArray, List.set_cons_zero, List.set_cons_succ]
  refine wpAnyH_take (i := 7) (v := ?_) rfl (by kernel_rfl) (by kernel_rfl) (by kernel_rfl) (fun c a w h => h) (Or.inl ⟨by rfl, ?_⟩) hHeld ?_
  rotate_left
  · (intro w hSw; (try dsimp only at hSw); go_simp; try with_reducible rfl)
  simp only [Act.put, List.getElem_toArray, List.getElem_cons_zero, List.getElem_cons_succ, List.setIfInBounds_toArray, List.set_cons_zero, List.set_cons_succ]
  refine wpAnyH_take (i := 8) (v := ?_) rfl (by kernel_rfl) (by kernel_rfl) (by kernel_rfl) (fun c a w h => h) (Or.inl ⟨by rfl, ?_⟩) hHeld ?_
  rotate_left
  · (intro w hSw; (try dsimp only at hSw); go_simp; try with_reducible rfl)
  simp only [Act.put, List.getElem_toArray, List.getElem_cons_zero, List.getElem_cons_succ, List.setIfInBounds_toArray, List.set_cons_zero, List.set_cons_succ]
  have s1 := fun o => HSA.out _ (bda w o)
  refine wpAnyH_ready (rs := [9]) (by kernel_rfl) (by simp) ?_
  refine AllReadyH.cons rfl (fun K hK => ?_) AllReadyH.nil
  go_simp
  refine hK.out _ _ (s1 _) (fun hHeld => ?_)
  clear hK K
  try simp only [Act.put, List.getElem_toArray, List.getElem_cons_zero, List.getElem_cons_succ, List.setIfInBounds_toArray, List.set_cons_zero, List.set_cons_succ]
  refine wpAnyH_ready (rs := [10]) (by kernel_rfl) (by simp) ?_
  refine AllReadyH.cons rfl (fun K hK => ?_) AllReadyH.nil
  go_simp
  refine hK.out _ _ (s1 _) (fun hHeld => ?_)
  clear hK K
  refine wpAnyH_done (by kernel_rfl) ?_ _
  clear hHeld s1 HSA
  try simp only [Act.put, List.getElem_toArray, List.getElem_cons_zero, List.getElem_cons_succ, List.setIfInBounds_toArray, List.set_cons_zero, List.set_cons_succ]
  go_wp2
  go_ret
  exact ⟨_, rfl, (.inr ⟨_, _, rfl, Nat.le_refl _, sl_block S.hU _ _ 31 [y, z, x] (heap_alloc_new _ _)⟩), bda _ _⟩
theorem sh_17 (g c : Nat) (hc : 2 ≤ c) (x y : Int) (w : World) (h0 : w.cell? ⟨g, 0, none⟩ = some (.int .u16 x)) (h1 : w.cell? ⟨g, 1, none⟩ = some (.int .u16 y)) :
    Calls Tryz.prog 56 #[.int .i64 17, .slice (some ⟨g, 0, none⟩) 2 c] w fun e w' => ∃ v, e = .returned v ∧ S.Ls S.eU 1 w' v [y] ∧ Below w.heap.size w w' := by
  go_enter Tryz.func56, Tryz.ntmps56
  go_wp2
  go_ret
  exact ⟨_, rfl, (.inr ⟨_, _, rfl, Nat.le_refl _, sl_block S.hU _ _ 31 [y] (heap_alloc_new _ _)⟩), (Below.refl _ w).alloc (Nat.le_refl _) _⟩
theorem sh_18 (g c : Nat) (hc : 2 ≤ c) (x y : Int) (w : World) (h0 : w.cell? ⟨g, 0, none⟩ = some (.int .u16 x)) (h1 : w.cell? ⟨g, 1, none⟩ = some (.int .u16 y)) :
    Calls Tryz.prog 56 #[.int .i64 18, .slice (some ⟨g, 0, none⟩) 2 c] w fun e w' => ∃ v, e = .returned v ∧ S.Ls S.eU 1 w' v [y, x, y] ∧ Below w.heap.size w w' := by
  have sA : ∀ W', Below w.heap.size w W' → (fun w' : World => w'.cell? ⟨g, 0, none⟩ = some (.int .u16 x) ∧ w'.cell? ⟨g, 1, none⟩ = some (.int .u16 y)) W' := fun W' k => ⟨bcell k h0, bcell k h1⟩
  have HSA := S.hid sA
  have s0 := sA _ ((Below.refl _ w).drew)
  clear sA h0 h1
  go_enter Tryz.func56, Tryz.ntmps56
  go_upto_region 13 with fail
  try simp only [Act.put, List.getElem_toArray, List.getElem_cons_zero, List.getElem_cons_succ, List.setIfInBounds_toArray, List.set_cons_zero, List.set_cons_succ]
  refine wp_region_held_drew (S := (fun w' : World => w'.cell? ⟨g, 0, none⟩ = some (.int .u16 x) ∧ w'.cell? ⟨g, 1, none⟩ = some (.int .u16 y))) (by kernel_rfl) s0 (fun hHeld => ?_)
  clear s0
  refine wpAnyH_take (i := 0) (v := ?_) rfl (by kernel_rfl) (by kernel_rfl) (by kernel_rfl) (fun c a w h => h) (Or.inl ⟨by rfl, ?_⟩) hHeld ?_
  rotate_left
  · (intro w hSw; (try dsimp only at hSw); go_simp; try with_reducible rfl)
  simp only [Act.put, List.getElem_toArray, List.getElem_cons_zero, List.getElem_cons_succ, List.setIfInBounds_toArray, List.set_cons_zero, List.set_cons_succ]
  refine wpAnyH_take (i := 1) (v := ?_) rfl (by kernel_rfl) (by kernel_rfl) (by kernel_rfl) (fun c a w h => h) (Or.inl ⟨by rfl, ?_⟩) hHeld ?_
  rotate_left
  · (intro w hSw; (try dsimp only at hSw); go_simp; try with_reducible rfl)
  simp only [Act.put, List.getElem_toArray, List.getElem_cons_zero, List.getElem_cons_succ, List.setIfInBounds_toArray, List.set_cons_zero, List.set_cons_succ]
  refine wpAnyH_take (i := 2) (v := ?_) rfl (by kernel_rfl) (by kernel_rfl) (by kernel_rfl) (fun c a w h => h) (Or.inl ⟨by rfl, ?_⟩) hHeld ?_
  rotate_left
  · (intro w hSw; (try dsimp only at hSw); go_simp; try with_reducible rfl)
  simp only [Act.put, List.getElem_toArray, List.getElem_cons_zero, List.getElem_cons_succ, List.setIfInBounds_toArray, List.set_cons_zero, List.set_cons_succ]
  refine wpAnyH_take (i := 3) (v := ?_) rfl (by kernel_rfl) (by kernel_rfl) (by kernel_rfl) (fun c a w h => h) (Or.inl ⟨by rfl, ?_⟩) hHeld ?_
  rotate_left
  · (intro w hSw; (try dsimp only at hSw); go_simp; try with_reducible rfl)
  simp only [Act.put, List.getElem_toArray, List.getElem_cons_zero, List.getElem_cons_succ, List.setIfInBounds_toArray, List.set_cons_zero, List.set_cons_succ]
  refine wpAnyH_take (i := 4) (v := ?_) rfl (by kernel_rfl) (by kernel_rfl) (by kernel_rfl) (fun c a w h => h) (Or.inl ⟨by rfl, ?_⟩) hHeld ?_
  rotate_left
  · (intro w hSw; (try dsimp only at hSw); go_simp; try with_reducible rfl)
  simp only [Act.put, List.getElem_toArray, List.getElem_cons_zero, List.getElem_cons_succ, List.setIfInBounds_toArray, List.set_cons_zero, List.set_cons_succ]
  refine wpAnyH_take (i := 5) (v := ?_) rfl (by kernel_rfl) (by kernel_rfl) (by kernel_rfl) (fun c a w h => h) (Or.inl ⟨by rfl, ?_⟩) hHeld ?_
  rotate_left
  · (intro w hSw; (try dsimp only at hSw); go_simp; try with_reducible rfl)
  simp only [Act.put, List.getElem_toArray, List.getElem_cons_zero, List.getElem_cons_succ, List.setIfInBounds_toArray, List.set_cons_zero, List.set_cons_succ]
  refine wpAnyH_take (i := 6) (v := ?_) rfl (by kernel_rfl) (by kernel_rfl) (by kernel_rfl) (fun c a w h => h) (Or.inl ⟨by rfl, ?_⟩) hHeld ?_
  rotate_left
  · (intro w hSw; (try dsimp only at hSw); go_simp; try with_reducible rfl)
  simp only [Act.put, List.getElem_toArray, List.getElem_cons_zero, List.getElem_cons_succ, List.setIfInBounds_toArray, List.set_cons_zero, List.set_cons_succ]
  refine wpAnyH_take (i := 7) (v := ?_) rfl (by kernel_rfl) (by kernel_rfl) (by kernel_rfl) (fun c a w h => h) (Or.inl ⟨by rfl, ?_⟩) hHeld ?_
  rotate_left
  · (intro w hSw; (try dsimp only at hSw); go_simp; try with_reducible rfl)
  simp only [Act.put, List.getElem_toArray, List.getElem_cons_zero, List.getElem_cons_succ, List.setIfInBounds_toArray, List.set_cons_zero, List.set_cons_succ]
  refine wpAnyH_take (i := 8) (v := ?_) rfl (by kernel_rfl) (by kernel_rfl) (by kernel_rfl) (fun c a w h => h) (Or.inl ⟨by rfl, ?_⟩) hHeld ?_
  rotate_left
  · (intro w hSw; (try dsimp only at hSw); go_simp; try with_reducible rfl)
  simp only [Act.put, List.getElem_toArray, List.getElem_cons_zero, List.getElem_cons_succ, List.setIfInBounds_toArray, List.set_cons_zero, List.set_cons_succ]
  have s1 := fun o => HSA.out _ (bda w o)
  refine wpAnyH_ready (rs := [9]) (by kernel_rfl) (by simp) ?_
  refine AllReadyH.cons rfl (fun K hK => ?_) AllReadyH.nil
  go_simp
  refine hK.out _ _ (s1 _) (fun hHeld => ?_)
  clear hK K
  try simp only [Act.put, List.getElem_toArray, List.getElem_cons_zero, List.getElem_cons_succ, List.setIfInBounds_toArray, List.set_cons_zero, List.set_cons_succ]
  refine wpAnyH_ready (rs := [10]) (by kernel_rfl) (by simp) ?_
  refine AllReadyH.cons rfl (fun K hK => ?_) AllReadyH.nil
  go_simp
  refine hK.out _ _ (s1 _) (fun hHeld => ?_)
  clear hK K
  refine wpAnyH_done (by kernel_rfl) ?_ _
  clear hHeld s1 HSA
  try simp only [Act.put, List.getElem_toArray, List.getElem_cons_zero, List.getElem_cons_succ, List.setIfInBounds_toArray, List.set_cons_zero, List.set_cons_succ]
  go_wp2
  go_ret
  exact ⟨_, rfl, (.inr ⟨_, _, rfl, Nat.le_refl _, sl_block S.hU _ _ 31 [y, x, y] (heap_alloc_new _ _)⟩), bda _ _⟩
theorem sh_19 (g c : Nat) (hc : 2 ≤ c) (x y : Int) (w : World) (h0 : w.cell? ⟨g, 0, none⟩ = some (.int .u16 x)) (h1 : w.cell? ⟨g, 1, none⟩ = some (.int .u16 y)) :
    Calls Tryz.prog 56 #[.int .i64 19, .slice (some ⟨g, 0, none⟩) 2 c] w fun e w' => ∃ v, e = .returned v ∧ S.Ls S.eU 1 w' v [x, y, x, y] ∧ Below w.heap.size w w' := by
  have sA : ∀ W', Below w.heap.size w W' → (fun w' : World => w'.cell? ⟨g, 0, none⟩ = some (.int .u16 x) ∧ w'.cell? ⟨g, 1, none⟩ = some (.int .u16 y)) W' := fun W' k => ⟨bcell k h0, bcell k h1⟩
  have HSA := S.hid sA
  have s0 := sA _ ((Below.refl _ w).drew)
  clear sA h0 h1
  go_enter Tryz.func56, Tryz.ntmps56
  go_upto_region 15 with fail
  try simp only [Act.put, List.getElem_toArray, List.getElem_cons_zero, List.getElem_cons_succ, List.setIfInBounds_toArray, List.set_cons_zero, List.set_cons_succ]
  refine wp_region_held_drew (S := (fun w' : World => w'.cell? ⟨g, 0, none⟩ = some (.int .u16 x) ∧ w'.cell? ⟨g, 1, none⟩ = some (.int .u16 y))) (by kernel_rfl) s0 (fun hHeld => ?_)
  clear s0
  refine wpAnyH_take (i := 0) (v := ?_) rfl (by kernel_rfl) (by kernel_rfl) (by kernel_rfl) (fun c a w h => h) (Or.inl ⟨by rfl, ?_⟩) hHeld ?_
  rotate_left
  · (intro w hSw; (try dsimp only at hSw); go_simp; try with_reducible rfl)
  simp only [Act.put, List.getElem_toArray, List.getElem_cons_zero, List.getElem_cons_succ, List.setIfInBounds_toArray, List.set_cons_zero, List.set_cons_succ]
  refine wpAnyH_take (i := 1) (v := ?_) rfl (by kernel_rfl) (by kernel_rfl) (by kernel_rfl) (fun c a w h => h) (Or.inl ⟨by rfl, ?_⟩) hHeld ?_
  rotate_left
  · (intro w hSw; (try dsimp only at hSw); go_simp; try with_reducible rfl)
  simp only [Act.put, List.getElem_toArray, List.getElem_cons_zero, List.getElem_cons_succ, List.setIfInBounds_toArray, List.set_cons_zero, List.set_cons_succ]
  refine wpAnyH_take (i := 2) (v := ?_) rfl (by kernel_rfl) (by kernel_rfl) (by kernel_rfl) (fun c a w h => h) (Or.inl ⟨by rfl, ?_⟩) hHeld ?_
  rotate_left
  · (intro w hSw; (try dsimp only at hSw); go_simp; try with_reducible rfl)
  simp only [Act.put, List.getElem_toArray, List.getElem_cons_zero, List.getElem_cons_succ, List.setIfInBounds_toArray, List.set_cons_zero, List.set_cons_succ]
  refine wpAnyH_take (i := 3) (v := ?_) rfl (by kernel_rfl) (by kernel_rfl) (by kernel_rfl) (fun c a w h => h) (Or.inl ⟨by rfl, ?_⟩) hHeld ?_
  rotate_left
  · (intro w hSw; (try dsimp only at hSw); go_simp; try with_reducible rfl)
  simp only [Act.put, List.getElem_toArray, List.getElem_cons_zero, List.getElem_cons_succ, List.setIfInBounds_toArray, List.set_cons_zero, List.set_cons_succ]
  refine wpAnyH_take (i := 4) (v := ?_) rfl (by kernel_rfl) (by kernel_rfl) (by kernel_rfl) (fun c a w h => h) (Or.inl ⟨by rfl, ?_⟩) hHeld ?_
  rotate_left
  · (intro w hSw; (try dsimp only at hSw); go_simp; try with_reducible rfl)
  simp only [Act.put, List.getElem_toArray, List.getElem_cons_zero, List.getElem_cons_succ, List.setIfInBounds_toArray, List.set_cons_zero, List.set_cons_succ]
  refine wpAnyH_take (i := 5) (v := ?_) rfl (by kernel_rfl) (by kernel_rfl) (by kernel_rfl) (fun c a w h => h) (Or.inl ⟨by rfl, ?_⟩) hHeld ?_
  rotate_left
  · (intro w hSw; (try dsimp only at hSw); go_simp; try with_reducible rfl)
  simp only [Act.put, List.getElem_toArray, List.getElem_cons_zero, List.getElem_cons_succ, List.setIfInBounds_toArray, List.set_cons_zero, List.set_cons_succ]
  refine wpAnyH_take (i := 6) (v := ?_) rfl (by kernel_rfl) (by kernel_rfl) (by kernel_rfl) (fun c a w h => h) (Or.inl ⟨by rfl, ?_⟩) hHeld ?_
  rotate_left
  · (intro w hSw; (try dsimp only at hSw); go_simp; try with_reducible rfl)
  simp only [Act.put, List.getElem_toArray, List.getElem_cons_zero, List.getElem_cons_succ, List.setIfInBounds_toArray, List.set_cons_zero, List.set_cons_succ]
  refine wpAnyH_take (i := 7) (v := ?_) rfl (by kernel_rfl) (by kernel_rfl) (by kernel_rfl) (fun c a w h => h) (Or.inl ⟨by rfl, ?_⟩) hHeld ?_
  rotate_left
  · (intro w hSw; (try dsimp only at hSw); go_simp; try with_reducible rfl)
  simp only [Act.put, List.getElem_toArray, List.getElem_cons_zero, List.getElem_cons_succ, List.setIfInBounds_toArray, List.set_cons_zero, List.set_cons_succ]
  refine wpAnyH_take (i := 8) (v := ?_) rfl (by kernel_rfl) (by kernel_rfl) (by kernel_rfl) (fun c a w h => h) (Or.inl ⟨by rfl, ?_⟩) hHeld ?_
  rotate_left
  · (intro w hSw; (try dsimp only at hSw); go_simp; try with_reducible rfl)
  simp only [Act.put, List.getElem_toArray, List.getElem_cons_zero, List.getElem_cons_succ, List.setIfInBounds_toArray, List.set_cons_zero, List.set_cons_succ]
  refine wpAnyH_take (i := 9) (v := ?_) rfl (by kernel_rfl) (by kernel_rfl) (by kernel_rfl) (fun c a w h => h) (Or.inl ⟨by rfl, ?_⟩) hHeld ?_
  rotate_left
  · (intro w hSw; (try dsimp only at hSw); go_simp; try with_reducible rfl)
  simp only [Act.put, List.getElem_toArray, List.getElem_cons_zero, List.getElem_cons_succ, List.setIfInBounds_toArray, List.set_cons_zero, List.set_cons_succ]
  refine wpAnyH_take (i := 10) (v := ?_) rfl (by kernel_rfl) (by kernel_rfl) (by kernel_rfl) (fun c a w h => h) (Or.inl ⟨by rfl, ?_⟩) hHeld ?_
  rotate_left
  · (intro w hSw; (try dsimp only at hSw); go_simp; try with_reducible rfl)
  simp only [Act.put, List.getElem_toArray, List.getElem_cons_zero, List.getElem_cons_succ, List.setIfInBounds_toArray, List.set_cons_zero, List.set_cons_succ]
  refine wpAnyH_take (i := 11) (v := ?_) rfl (by kernel_rfl) (by kernel_rfl) (by kernel_rfl) (fun c a w h => h) (Or.inl ⟨by rfl, ?_⟩) hHeld ?_
  rotate_left
  · (intro w hSw; (try dsimp only at hSw); go_simp; try with_reducible rfl)
  simp only [Act.put, List.getElem_toArray, List.getElem_cons_zero, List.getElem_cons_succ, List.setIfInBounds_toArray, List.set_cons_zero, List.set_cons_succ]
  have s1 := fun o => HSA.out _ (bda w o)
  refine wpAnyH_ready (rs := [12]) (by kernel_rfl) (by simp) ?_
  refine AllReadyH.cons rfl (fun K hK => ?_) AllReadyH.nil
  go_simp
  refine hK.out _ _ (s1 _) (fun hHeld => ?_)
  clear hK K
  try simp only [Act.put, List.getElem_toArray, List.getElem_cons_zero, List.getElem_cons_succ, List.setIfInBounds_toArray, List.set_cons_zero, List.set_cons_succ]
  refine wpAnyH_ready (rs := [13]) (by kernel_rfl) (by simp) ?_
  refine AllReadyH.cons rfl (fun K hK => ?_) AllReadyH.nil
  go_simp
  refine hK.out _ _ (s1 _) (fun hHeld => ?_)
  clear hK K
  refine wpAnyH_done (by kernel_rfl) ?_ _
  clear hHeld s1 HSA
  try simp only [Act.put, List.getElem_toArray, List.getElem_cons_zero, List.getElem_cons_succ, List.setIfInBounds_toArray, List.set_cons_zero, List.set_cons_succ]
  go_wp2
  go_ret
  exact ⟨_, rfl, (.inr ⟨_, _, rfl, Nat.le_refl _, sl_block S.hU _ _ 31 [x, y, x, y] (heap_alloc_new _ _)⟩), bda _ _⟩
theorem sh_20 (g c : Nat) (hc : 2 ≤ c) (x y : Int) (w : World) (h0 : w.cell? ⟨g, 0, none⟩ = some (.int .u16 x)) (h1 : w.cell? ⟨g, 1, none⟩ = some (.int .u16 y)) :
    Calls Tryz.prog 56 #[.int .i64 20, .slice (some ⟨g, 0, none⟩) 2 c] w fun e w' => ∃ v, e = .returned v ∧ S.Ls S.eU 1 w' v [] ∧ Below w.heap.size w w' := by
  clear h0 h1
  go_enter Tryz.func56, Tryz.ntmps56
  go_wp2
  go_ret
  exact ⟨_, rfl, nil_ls _, Below.refl _ _⟩
end Go.Proofs.YtgponcjjnjpfkabGreat.L
/-! The reference's returns. -/
namespace Go.Proofs.YtgponcjjnjpfkabGreat.L
open Go.RowKit
open Go.Proofs
open P
set_option linter.unusedVariables false
set_option linter.unusedSimpArgs false
set_option maxHeartbeats 4000000
set_option maxRecDepth 100000
theorem QVb {W W' : World} {B bq : Nat} {qv : Value} {R : List (Int × Int)} (h : S.QV W B bq qv R) (k : Below W.heap.size W W') : S.QV W' B bq qv R := ⟨(k.block _ (S.lt_of h.blk)).trans h.blk, S.own_kept h.row fun g e hg => k.block g hg, h.hb, h.len⟩
theorem EVb {W W' : World} {B be : Nat} {ev : Value} {D : List Int} (h : S.EV W B be ev D) (k : Below W.heap.size W W') : S.EV W' B be ev D := ⟨(k.block _ (S.lt_of h.blk)).trans h.blk, S.own_kept h.row fun g e hg => k.block g hg, h.hb, h.len⟩
theorem Nwr (w : World) (v : Value) : S.Nw w v v := fun _ e => .inl e
theorem atT {a b c : World} {g : Nat} (h : Below a.heap.size a b) (k : S.At g b c) : S.At g a c :=
  ⟨k.os.trans h.os, k.tape.trans h.tape, k.output.trans h.output, Nat.le_trans h.size k.size, fun i hi hn => (k.block i (Nat.lt_of_lt_of_le hi h.size) hn).trans (h.block i hi)⟩
theorem atS {a b c : World} {g : Nat} (h : S.At g a b) (k : Below b.heap.size b c) : S.At g a c :=
  ⟨k.os.trans h.os, k.tape.trans h.tape, k.output.trans h.output, Nat.le_trans h.size k.size, fun i hi hn => (k.block i (Nat.lt_of_lt_of_le hi h.size)).trans (h.block i hi hn)⟩
theorem NwT {a b : World} {u v : Value} (h : a.heap.size ≤ b.heap.size) (k : S.Nw b u v) : S.Nw a u v := fun g e => (k g e).imp id fun x => Nat.le_trans h x
theorem re_57 (xv : Value) (bq B : Nat) (qv : Value) (R : List (Int × Int)) (w : World) (hy : S.QV w B bq qv R) :
    Calls Tryz.prog 57 #[.int .i64 57, xv, .pointer (some ⟨bq, 0, none⟩)] w fun e w' => ∃ v qv', e = .returned v ∧ S.Ls S.eU 1 w' v [(lk 4 0 R).1] ∧ S.QV w' B bq qv' R ∧ S.Nw w qv qv' ∧ S.At bq w w' := by
  have kl := rlooks_any 57 (by decide) bq B qv R w hy
  replace kl : Calls Tryz.prog 83 #[.int .i64 57, .pointer (some ⟨bq, 0, none⟩)] w fun e w' => e = .returned (.tuple #[.int .u16 (lk 4 0 R).1, .int .i64 (lk 4 0 R).2]) ∧ Below w.heap.size w w' := kl
  have HY := S.hid hy
  clear hy
  generalize lk 4 0 R = t at *
  obtain ⟨t1, t2⟩ := t
  go_enter Tryz.func57, Tryz.ntmps57
  go_wp2_with fail
  refine kl.mono ?_
  rintro e w1 ⟨rfl, hb⟩
  have HB := S.hid (hb.alloc hb.size (.cells #[.int .u16 t1] 31))
  clear kl hb
  go_wp2
  go_ret
  exact ⟨_, qv, rfl, one_ls w1 t1, QVb HY.out HB.out, Nwr _ _, S.atB _ HB.out⟩
theorem re_58 (xv : Value) (bq B : Nat) (qv : Value) (R : List (Int × Int)) (w : World) (hy : S.QV w B bq qv R) :
    Calls Tryz.prog 57 #[.int .i64 58, xv, .pointer (some ⟨bq, 0, none⟩)] w fun e w' => ∃ v qv', e = .returned v ∧ S.Ls S.eU 1 w' v [(lk 3 0 R).1] ∧ S.QV w' B bq qv' R ∧ S.Nw w qv qv' ∧ S.At bq w w' := by
  have kl := rlooks_any 58 (by decide) bq B qv R w hy
  replace kl : Calls Tryz.prog 83 #[.int .i64 58, .pointer (some ⟨bq, 0, none⟩)] w fun e w' => e = .returned (.tuple #[.int .u16 (lk 3 0 R).1, .int .i64 (lk 3 0 R).2]) ∧ Below w.heap.size w w' := kl
  have HY := S.hid hy
  clear hy
  generalize lk 3 0 R = t at *
  obtain ⟨t1, t2⟩ := t
  go_enter Tryz.func57, Tryz.ntmps57
  go_wp2_with fail
  refine kl.mono ?_
  rintro e w1 ⟨rfl, hb⟩
  have HB := S.hid (hb.alloc hb.size (.cells #[.int .u16 t1] 31))
  clear kl hb
  go_wp2
  go_ret
  exact ⟨_, qv, rfl, one_ls w1 t1, QVb HY.out HB.out, Nwr _ _, S.atB _ HB.out⟩
theorem re_59 (xv : Value) (bq B : Nat) (qv : Value) (R : List (Int × Int)) (w : World) (hy : S.QV w B bq qv R) :
    Calls Tryz.prog 57 #[.int .i64 59, xv, .pointer (some ⟨bq, 0, none⟩)] w fun e w' => ∃ v qv', e = .returned v ∧ S.Ls S.eU 1 w' v [(lk 3 2 R).1] ∧ S.QV w' B bq qv' R ∧ S.Nw w qv qv' ∧ S.At bq w w' := by
  have kl := rlooks_any 59 (by decide) bq B qv R w hy
  replace kl : Calls Tryz.prog 83 #[.int .i64 59, .pointer (some ⟨bq, 0, none⟩)] w fun e w' => e = .returned (.tuple #[.int .u16 (lk 3 2 R).1, .int .i64 (lk 3 2 R).2]) ∧ Below w.heap.size w w' := kl
  have HY := S.hid hy
  clear hy
  generalize lk 3 2 R = t at *
  obtain ⟨t1, t2⟩ := t
  go_enter Tryz.func57, Tryz.ntmps57
  go_wp2_with fail
  refine kl.mono ?_
  rintro e w1 ⟨rfl, hb⟩
  have HB := S.hid (hb.alloc hb.size (.cells #[.int .u16 t1] 31))
  clear kl hb
  go_wp2
  go_ret
  exact ⟨_, qv, rfl, one_ls w1 t1, QVb HY.out HB.out, Nwr _ _, S.atB _ HB.out⟩
theorem re_56 (xv : Value) (bq B : Nat) (qv : Value) (R : List (Int × Int)) (hf : (lk 4 0 R).2 = 0) (w : World) (hy : S.QV w B bq qv R) :
    Calls Tryz.prog 57 #[.int .i64 56, xv, .pointer (some ⟨bq, 0, none⟩)] w fun e w' => ∃ v qv', e = .returned v ∧ S.Ls S.eU 1 w' v [(lk 4 0 R).1] ∧ S.QV w' B bq qv' (R.take (R.length - 1)) ∧ S.Nw w qv qv' ∧ S.At bq w w' := by
  have kl := rlooks_any 56 (by decide) bq B qv R w hy
  replace kl : Calls Tryz.prog 83 #[.int .i64 56, .pointer (some ⟨bq, 0, none⟩)] w fun e w' => e = .returned (.tuple #[.int .u16 (lk 4 0 R).1, .int .i64 (lk 4 0 R).2]) ∧ Below w.heap.size w w' := kl
  have hs := lk_saved hf
  generalize R.take (R.length - 1) = l at *
  generalize lk 4 0 R = t at *
  obtain ⟨t1, t2⟩ := t
  simp only at hs
  subst hs
  have kp := fun w1 (k : Below w.heap.size w w1) => S.qpop_at bq B qv l 4 t1 w1 (QVb hy k)
  have HKP := S.hid kp
  clear hy kp
  go_enter Tryz.func57, Tryz.ntmps57
  go_wp2_with fail
  refine kl.mono ?_
  rintro e w1 ⟨rfl, hb⟩
  have kp := HKP.out w1 hb
  have HB := S.hid hb
  clear kl hb HKP
  go_wp2_with fail
  refine kp.mono ?_
  rintro e w2 ⟨rfl, ⟨qv', hq, hn⟩, ha⟩
  have HF := S.hid (And.intro hq (And.intro hn ha))
  clear kp hq hn ha
  go_wp2
  go_ret
  have hal := (Below.refl _ w2).alloc (Nat.le_refl _) (.cells #[.int .u16 t1] 31)
  exact ⟨_, qv', rfl, one_ls w2 t1, QVb HF.out.1 hal, NwT HB.out.size HF.out.2.1, atS (atT HB.out HF.out.2.2) hal⟩
theorem re_55 (g c : Nat) (hc : 1 ≤ c) (x : Int) (bq B : Nat) (qv : Value) (R : List (Int × Int)) (hl : R.length + 1 ≤ 128) (w : World) (h0 : w.cell? ⟨g, 0, none⟩ = some (.int .u16 x)) (hy : S.QV w B bq qv R) :
    Calls Tryz.prog 57 #[.int .i64 55, .slice (some ⟨g, 0, none⟩) 1 c, .pointer (some ⟨bq, 0, none⟩)] w fun e w' => ∃ v qv', e = .returned v ∧ S.Ls S.eU 1 w' v [] ∧ S.QV w' B bq qv' (R ++ [(4, x)]) ∧ S.Nw w qv qv' ∧ S.At bq w w' := by
  have kl := rlooks_any 55 (by decide) bq B qv R w hy
  replace kl : Calls Tryz.prog 83 #[.int .i64 55, .pointer (some ⟨bq, 0, none⟩)] w fun e w' => e = .returned (.tuple #[.int .u16 0, .int .i64 0]) ∧ Below w.heap.size w w' := kl
  have HY := S.hid hy
  have H0 := S.hid h0
  clear hy h0
  go_enter Tryz.func57, Tryz.ntmps57
  go_wp2_with fail
  refine kl.mono ?_
  rintro e w1 ⟨rfl, hb⟩
  have h0 := bcell hb H0.out
  have ba := hb.alloc hb.size (.cells #[.int .i64 4, .int .u16 x] 68)
  have kp := S.qpush_at bq B qv R [(4, x)] (.slice (some ⟨w1.heap.size, 0, none⟩) 1 1) _ (QVb HY.out ba) (.inr ⟨_, _, rfl, Nat.le_refl _, sl_block S.hK _ _ 68 [(4, x)] (heap_alloc_new _ _)⟩) hl
  have HB := S.hid ba
  clear kl hb HY H0 ba
  go_wp2_with fail
  refine kp.mono ?_
  rintro e w2 ⟨rfl, ⟨qv', hq, hn⟩, ha⟩
  have HF := S.hid (And.intro hq (And.intro hn ha))
  clear kp hq hn ha
  go_wp2
  go_ret
  exact ⟨_, qv', rfl, nil_ls _, HF.out.1, NwT HB.out.size HF.out.2.1, atT HB.out HF.out.2.2⟩
theorem re_6 (g c : Nat) (hc : 2 ≤ c) (x y : Int) (bq B : Nat) (qv : Value) (R : List (Int × Int)) (hl : R.length + 2 ≤ 128) (w : World) (h0 : w.cell? ⟨g, 0, none⟩ = some (.int .u16 x)) (h1 : w.cell? ⟨g, 1, none⟩ = some (.int .u16 y)) (hy : S.QV w B bq qv R) (hgq : g ≠ bq) :
    Calls Tryz.prog 57 #[.int .i64 6, .slice (some ⟨g, 0, none⟩) 2 c, .pointer (some ⟨bq, 0, none⟩)] w fun e w' => ∃ v qv', e = .returned v ∧ S.Ls S.eU 1 w' v [] ∧ S.QV w' B bq qv' (R ++ [(2, x), (3, y)]) ∧ S.Nw w qv qv' ∧ S.At bq w w' := by
  have kl := rlooks_any 6 (by decide) bq B qv R w hy
  replace kl : Calls Tryz.prog 83 #[.int .i64 6, .pointer (some ⟨bq, 0, none⟩)] w fun e w' => e = .returned (.tuple #[.int .u16 0, .int .i64 0]) ∧ Below w.heap.size w w' := kl
  have HY := S.hid hy
  have H0 := S.hid (And.intro h0 h1)
  clear hy h0 h1
  go_enter Tryz.func57, Tryz.ntmps57
  go_wp2_with fail
  refine kl.mono ?_
  rintro e w1 ⟨rfl, hb⟩
  have hg1 : g < w1.heap.size := Nat.lt_of_lt_of_le (World.block_lt_of_cell? w _ H0.out.1) hb.size
  have sA : ∀ W', (∀ k, k = g → W'.heap[k]? = w1.heap[k]?) → (fun w' : World => w'.cell? ⟨g, 0, none⟩ = some (.int .u16 x) ∧ w'.cell? ⟨g, 1, none⟩ = some (.int .u16 y)) W' := fun W' k => ⟨(World.cell?_of_block (w := w1) (k g rfl)).trans (bcell hb H0.out.1), (World.cell?_of_block (w := w1) (k g rfl)).trans (bcell hb H0.out.2)⟩
  have ba := (hb.drew).alloc hb.size (.cells #[.int .i64 2, .int .u16 x, .int .i64 3, .int .u16 y] 68)
  have kp := S.qpush_at bq B qv R [(2, x), (3, y)] (.slice (some ⟨w1.heap.size, 0, none⟩) 2 2) _ (QVb HY.out ba) (.inr ⟨_, _, rfl, Nat.le_refl _, sl_block S.hK _ _ 68 [(2, x), (3, y)] (heap_alloc_new _ _)⟩) hl
  have s0 := sA w1.drew (fun k _ => rfl)
  have s1 := sA (w1.drew.alloc (.cells #[.int .i64 2, .int .u16 x, .int .i64 3, .int .u16 y] 68)) (fun k e => Below.heap_alloc w1.drew _ k (by subst e; exact hg1))
  have HSA := S.hid sA
  have HB := S.hid ba
  have HG := S.hid hg1
  clear kl hb HY H0 ba sA hg1
  go_upto_region 4 with fail
  try simp only [Act.put, List.getElem_toArray, List.getElem_cons_zero, List.getElem_cons_succ, List.setIfInBounds_toArray, List.set_cons_zero, List.set_cons_succ]
  refine wp_region_held_drew (S := (fun w' : World => w'.cell? ⟨g, 0, none⟩ = some (.int .u16 x) ∧ w'.cell? ⟨g, 1, none⟩ = some (.int .u16 y))) (by kernel_rfl) s0 (fun hHeld => ?_)
  clear s0
  refine wpAnyH_take (i := 0) (v := ?_) rfl (by kernel_rfl) (by kernel_rfl) (by kernel_rfl) (fun c a w h => h) (Or.inl ⟨by rfl, ?_⟩) hHeld ?_
  rotate_left
  · (intro w hSw; (try dsimp only at hSw); go_simp; try with_reducible rfl)
  simp only [Act.put, List.getElem_toArray, List.getElem_cons_zero, List.getElem_cons_succ, List.setIfInBounds_toArray, List.set_cons_zero, List.set_cons_succ]
  refine wpAnyH_take (i := 1) (v := ?_) rfl (by kernel_rfl) (by kernel_rfl) (by kernel_rfl) (fun c a w h => h) (Or.inl ⟨by rfl, ?_⟩) hHeld ?_
  rotate_left
  · (intro w hSw; (try dsimp only at hSw); go_simp; try with_reducible rfl)
  simp only [Act.put, List.getElem_toArray, List.getElem_cons_zero, List.getElem_cons_succ, List.setIfInBounds_toArray, List.set_cons_zero, List.set_cons_succ]
  refine wpAnyH_take (i := 2) (v := ?_) rfl (by kernel_rfl) (by kernel_rfl) (by kernel_rfl) (fun c a w h => h) (Or.inl ⟨by rfl, ?_⟩) hHeld ?_
  rotate_left
  · (intro w hSw; (try dsimp only at hSw); go_simp; try with_reducible rfl)
  simp only [Act.put, List.getElem_toArray, List.getElem_cons_zero, List.getElem_cons_succ, List.setIfInBounds_toArray, List.set_cons_zero, List.set_cons_succ]
  refine wpAnyH_take (i := 3) (v := ?_) rfl (by kernel_rfl) (by kernel_rfl) (by kernel_rfl) (fun c a w h => h) (Or.inl ⟨by rfl, ?_⟩) hHeld ?_
  rotate_left
  · (intro w hSw; (try dsimp only at hSw); go_simp; try with_reducible rfl)
  simp only [Act.put, List.getElem_toArray, List.getElem_cons_zero, List.getElem_cons_succ, List.setIfInBounds_toArray, List.set_cons_zero, List.set_cons_succ]
  refine wpAnyH_take (i := 4) (v := ?_) rfl (by kernel_rfl) (by kernel_rfl) (by kernel_rfl) (fun c a w h => h) (Or.inl ⟨by rfl, ?_⟩) hHeld ?_
  rotate_left
  · (intro w hSw; (try dsimp only at hSw); go_simp; try with_reducible rfl)
  simp only [Act.put, List.getElem_toArray, List.getElem_cons_zero, List.getElem_cons_succ, List.setIfInBounds_toArray, List.set_cons_zero, List.set_cons_succ]
  refine wpAnyH_take (i := 5) (v := ?_) rfl (by kernel_rfl) (by kernel_rfl) (by kernel_rfl) (fun c a w h => h) (Or.inl ⟨by rfl, ?_⟩) hHeld ?_
  rotate_left
  · (intro w hSw; (try dsimp only at hSw); go_simp; try with_reducible rfl)
  simp only [Act.put, List.getElem_toArray, List.getElem_cons_zero, List.getElem_cons_succ, List.setIfInBounds_toArray, List.set_cons_zero, List.set_cons_succ]
  refine wpAnyH_take (i := 6) (v := ?_) rfl (by kernel_rfl) (by kernel_rfl) (by kernel_rfl) (fun c a w h => h) (Or.inl ⟨by rfl, ?_⟩) hHeld ?_
  rotate_left
  · (intro w hSw; (try dsimp only at hSw); go_simp; try with_reducible rfl)
  simp only [Act.put, List.getElem_toArray, List.getElem_cons_zero, List.getElem_cons_succ, List.setIfInBounds_toArray, List.set_cons_zero, List.set_cons_succ]
  refine wpAnyH_take (i := 7) (v := ?_) rfl (by kernel_rfl) (by kernel_rfl) (by kernel_rfl) (fun c a w h => h) (Or.inl ⟨by rfl, ?_⟩) hHeld ?_
  rotate_left
  · (intro w hSw; (try dsimp only at hSw); go_simp; try with_reducible rfl)
  simp only [Act.put, List.getElem_toArray, List.getElem_cons_zero, List.getElem_cons_succ, List.setIfInBounds_toArray, List.set_cons_zero, List.set_cons_succ]
  refine wpAnyH_take (i := 8) (v := ?_) rfl (by kernel_rfl) (by kernel_rfl) (by kernel_rfl) (fun c a w h => h) (Or.inl ⟨by rfl, ?_⟩) hHeld ?_
  rotate_left
  · (intro w hSw; (try dsimp only at hSw); go_simp; try with_reducible rfl)
  simp only [Act.put, List.getElem_toArray, List.getElem_cons_zero, List.getElem_cons_succ, List.setIfInBounds_toArray, List.set_cons_zero, List.set_cons_succ]
  refine wpAnyH_ready (rs := [9]) (by kernel_rfl) (by simp) ?_
  refine AllReadyH.cons rfl (fun K hK => ?_) AllReadyH.nil
  go_simp
  refine hK.out _ _ s1 (fun hHeld => ?_)
  clear hK K
  try simp only [Act.put, List.getElem_toArray, List.getElem_cons_zero, List.getElem_cons_succ, List.setIfInBounds_toArray, List.set_cons_zero, List.set_cons_succ]
  refine wpAnyH_ready (rs := [10]) (by kernel_rfl) (by simp) ?_
  refine AllReadyH.cons rfl (fun K hK => ?_) AllReadyH.nil
  go_simp
  refine kp.mono ?_
  rintro e w2 ⟨rfl, ⟨qv', hq, hn⟩, ha⟩
  have s2 := HSA.out w2 (fun k e => (ha.block k (by subst e; rw [show (w1.drew.alloc (.cells #[.int .i64 2, .int .u16 x, .int .i64 3, .int .u16 y] 68)).heap.size = w1.heap.size + 1 from by simp]; have := HG.out; omega) (by subst e; exact hgq)).trans (Below.heap_alloc w1.drew _ k (by subst e; exact HG.out)))
  have HF := S.hid (And.intro hq (And.intro hn ha))
  clear kp hq hn ha
  refine hK.out _ _ s2 (fun hHeld => ?_)
  clear hK K
  refine wpAnyH_done (by kernel_rfl) ?_ _
  clear hHeld s1 s2 HSA
  try simp only [Act.put, List.getElem_toArray, List.getElem_cons_zero, List.getElem_cons_succ, List.setIfInBounds_toArray, List.set_cons_zero, List.set_cons_succ]
  go_wp2
  go_ret
  exact ⟨_, qv', rfl, nil_ls _, HF.out.1, NwT HB.out.size HF.out.2.1, atT HB.out HF.out.2.2⟩
end Go.Proofs.YtgponcjjnjpfkabGreat.L
/-! The reference: Load. -/
namespace Go.Proofs.YtgponcjjnjpfkabGreat.M
open Go.RowKit
open Go.Proofs
set_option linter.unusedVariables false
set_option linter.unusedSimpArgs false
set_option maxHeartbeats 2000000
set_option maxRecDepth 100000
theorem i64_id (z : Int) (h0 : 0 ≤ z) (h1 : z < 65536) : IntKind.i64.wrap z = z := by simp [IntKind.wrap, IntKind.bits, IntKind.signed]; omega
theorem rload_port (b : Nat) (z : Int) (h0 : 52224 ≤ z) (h1 : z < 65536) (w : World) {F : Nat → Prop} {m : MS} (hm : IsR w F b m) :
    Calls Tryz.prog 89 #[.pointer (some ⟨b, 0, none⟩), .int .u16 z] w fun e w' => e = .returned (.int .u8 (pt m z)) ∧ w' = w := by
  obtain ⟨hw, u, gr, gc, gs, tv, hm⟩ := hm
  have c3 := cell_of w b 3 _ 54 _ hm.blk rfl
  have c4 := cell_of w b 4 _ 54 _ hm.blk rfl
  have c5 := cell_of w b 5 _ 54 _ hm.blk rfl
  have c6 := cell_of w b 6 _ 54 _ hm.blk rfl
  have c7 := cell_of w b 7 _ 54 _ hm.blk rfl
  have w1 := hw.pitch0
  have w2 := hw.pitch1
  have w3 := hw.time0
  have w4 := hw.time1
  have e0 := i64_id z (by omega) h1
  have d1 : decide (z < 16384) = false := by simp; omega
  have d2 : decide (z < 32768) = false := by simp; omega
  have d3 : decide (z < 49152) = false := by simp; omega
  have d4 : decide (z < 52224) = false := by simp; omega
  have ep := u8_wrap m.pitch
  have et := u8_wrap m.time
  have hq1 : IntKind.u16.wrap (m.pitch.tdiv 256) = m.pitch / 256 := by rw [u16_wrap, Int.tdiv_eq_ediv_of_nonneg w1]; omega
  have hq2 : IntKind.u8.wrap (m.pitch / 256) = m.pitch / 256 := by rw [u8_wrap]; omega
  have hq3 : IntKind.u16.wrap (m.time.tdiv 256) = m.time / 256 := by rw [u16_wrap, Int.tdiv_eq_ediv_of_nonneg w3]; omega
  have hq4 : IntKind.u8.wrap (m.time / 256) = m.time / 256 := by rw [u8_wrap]; omega
  clear hm
  by_cases a0 : z = 65280
  · subst a0
    clear e0 d1 d2 d3 d4
    go_enter Tryz.func89, Tryz.ntmps89
    go_wp2
    go_ret
    exact ⟨by simp [pt], rfl⟩
  by_cases a1 : z = 65282
  · subst a1
    clear e0 d1 d2 d3 d4
    go_enter Tryz.func89, Tryz.ntmps89
    go_wp2
    go_ret
    exact ⟨by simp [pt], rfl⟩
  by_cases a2 : z = 65284
  · subst a2
    clear e0 d1 d2 d3 d4
    go_enter Tryz.func89, Tryz.ntmps89
    go_wp2
    go_ret
    exact ⟨by simp [pt], rfl⟩
  by_cases a3 : z = 65285
  · subst a3
    clear e0 d1 d2 d3 d4
    go_enter Tryz.func89, Tryz.ntmps89
    go_wp2
    go_ret
    exact ⟨by simp [pt], rfl⟩
  by_cases a4 : z = 65286
  · subst a4
    clear e0 d1 d2 d3 d4
    go_enter Tryz.func89, Tryz.ntmps89
    go_wp2
    go_ret
    exact ⟨by simp [pt], rfl⟩
  by_cases a5 : z = 65288
  · subst a5
    clear e0 d1 d2 d3 d4
    go_enter Tryz.func89, Tryz.ntmps89
    go_wp2
    go_ret
    exact ⟨by simp [pt], rfl⟩
  by_cases a6 : z = 65289
  · subst a6
    clear e0 d1 d2 d3 d4
    go_enter Tryz.func89, Tryz.ntmps89
    go_wp2
    go_ret
    exact ⟨by simp [pt], rfl⟩
  have f0 : (z == 65280) = false := by simpa using a0
  have f1 : (z == 65282) = false := by simpa using a1
  have f2 : (z == 65284) = false := by simpa using a2
  have f3 : (z == 65285) = false := by simpa using a3
  have f4 : (z == 65286) = false := by simpa using a4
  have f5 : (z == 65288) = false := by simpa using a5
  have f6 : (z == 65289) = false := by simpa using a6
  go_enter Tryz.func89, Tryz.ntmps89
  go_wp2
  go_ret
  exact ⟨by simp [pt, a0, a1, a2, a3, a4, a5, a6], rfl⟩
theorem rload_any (b : Nat) (z : Int) (h0 : 0 ≤ z) (h1 : z < 65536) (w : World) {F : Nat → Prop} {m : MS} (hm : IsR w F b m) :
    Calls Tryz.prog 89 #[.pointer (some ⟨b, 0, none⟩), .int .u16 z] w fun e w' => e = .returned (.int .u8 (ld m z)) ∧ Below w.heap.size w w' := by
  have e0 := i64_id z h0 h1
  by_cases a1 : z < 16384
  · have el : ld m z = 0 := by simp only [ld, a1, if_true]
    rw [el]
    have d1 : decide (z < 16384) = true := by simpa using a1
    go_enter Tryz.func89, Tryz.ntmps89
    go_wp2
    go_ret
    exact ⟨rfl, Below.refl _ _⟩
  have d1 : decide (z < 16384) = false := by simpa using a1
  by_cases a2 : z < 32768
  · obtain ⟨hw, u, gr, gc, gs, tv, h⟩ := hm
    have d2 : decide (z < 32768) = true := by simpa using a2
    have hbk := rbank_any b (inO m 16) w h hw.ch0 hw.ch1 (inO_len m 16)
    have hn : m.ch = (m.ch.toNat : Int) := by have := hw.ch0; omega
    have hch : m.ch.toNat < 16 := by have := hw.ch1; have := hw.ch0; omega
    have HEN : Hid (m.banks m.ch.toNat = none → ld m z = 0) := fun hnone => by simp only [ld, a1, a2, if_true, if_false, hnone]
    have HES : Hid (∀ l, m.banks m.ch.toNat = some l → ld m z = lb l (z - 16384).toNat) := fun l hbn => by simp only [ld, a1, a2, if_true, if_false, hbn]
    have HH : Hid _ := h
    clear h
    have q0 := eql_nil 51 5 Tryz.underlying51
    go_enter Tryz.func89, Tryz.ntmps89
    go_wp2_with fail
    refine hbk.mono ?_
    rintro e w2 ⟨hb2, hc⟩
    rcases hc with ⟨rfl, hno⟩ | ⟨i, t, g, hi, hg, ht, rfl⟩
    · have hnone : m.banks m.ch.toNat = none := by
        cases hb : m.banks m.ch.toNat with
        | none => rfl
        | some l => exact absurd (by rw [← hn]) (hno _ ((inO_mem m m.ch.toNat l 16).2 ⟨hch, hb⟩))
      have HE : Hid _ := HEN.out hnone
      clear hno hnone HEN HES
      go_wp2
      go_ret
      exact ⟨by rw [HE.out]; rfl, hb2⟩
    · have hmem : (((m.ch.toNat : Nat) : Int), t.2) ∈ inO m 16 := by
        have : t = (((m.ch.toNat : Nat) : Int), t.2) := by rw [← hn, ← ht]
        rw [← this]; exact List.mem_of_getElem? hi
      have hbn := ((inO_mem m m.ch.toNat t.2 16).1 hmem).2
      obtain ⟨x1, x2, x3, x4⟩ := HH.out.banks.dat i t g hi hg
      have hd5 := (hb2.block _ (lt_of x1)).trans x1
      obtain ⟨k, hk⟩ : ∃ k : Nat, z = k + 16384 := ⟨(z - 16384).toNat, by omega⟩
      have hkl : k < 16384 := by omega
      have hc := cell_of w2 g.1 k _ 5 _ hd5 ((bv_get t.2 _ _).2 ⟨_, lb_of t.2 k (by omega), rfl⟩)
      have el : ld m z = ((t.2.getD k 0).toNat : Int) := by
        rw [HES.out _ hbn, lb, show (z - 16384).toNat = k by omega]
      clear HEN HES
      have e1 : IntKind.i64.wrap (z - 16384) = (k : Int) := by rw [hk, show (k : Int) + 16384 - 16384 = (k : Int) by omega]; exact i64_id _ (by omega) (by omega)
      have i1 : (k : Int) < 16384 := by omega
      generalize ((t.2.getD k 0).toNat : Int) = y at *
      have HB : Hid _ := hb2
      have HE : Hid _ := el
      clear hmem hbn hi hg ht x1 x2 x3 x4 hd5 el hk hb2
      go_wp2
      go_ret
      exact ⟨by rw [HE.out]; rfl, HB.out⟩
  have d2 : decide (z < 32768) = false := by simpa using a2
  by_cases a3 : z < 49152
  · obtain ⟨hw, u, gr, gc, gs, tv, h⟩ := hm
    have d3 : decide (z < 49152) = true := by simpa using a3
    have el0 : ld m z = lb m.ram (z - 32768).toNat := by simp only [ld, a1, a2, a3, if_true, if_false]
    obtain ⟨k, rfl⟩ : ∃ k : Nat, z = k + 32768 := ⟨(z - 32768).toNat, by omega⟩
    have c1 := cell_of w b 1 _ 54 _ h.blk rfl
    have hc := cell_of w gr k _ 5 _ h.ram ((bv_get m.ram _ _).2 ⟨_, lb_of m.ram k (by rw [h.rl]; omega), rfl⟩)
    have el : ld m ((k : Int) + 32768) = ((m.ram.getD k 0).toNat : Int) := by
      rw [el0, lb, show ((k : Int) + 32768 - 32768).toNat = k by omega]
    clear el0
    rw [el]
    have e1 : IntKind.i64.wrap ((k : Int) + 32768 - 32768) = (k : Int) := by rw [show (k : Int) + 32768 - 32768 = (k : Int) by omega]; exact i64_id _ (by omega) (by omega)
    have i1 : (k : Int) < 16384 := by omega
    generalize ((m.ram.getD k 0).toNat : Int) = y at *
    clear h el
    go_enter Tryz.func89, Tryz.ntmps89
    go_wp2
    go_ret
    exact ⟨rfl, Below.refl _ _⟩
  have d3 : decide (z < 49152) = false := by simpa using a3
  by_cases a4 : z < 52224
  · obtain ⟨hw, u, gr, gc, gs, tv, h⟩ := hm
    have d4 : decide (z < 52224) = true := by simpa using a4
    have el0 : ld m z = lb m.scr (z - 49152).toNat := by simp only [ld, a1, a2, a3, a4, if_true, if_false]
    obtain ⟨k, rfl⟩ : ∃ k : Nat, z = k + 49152 := ⟨(z - 49152).toNat, by omega⟩
    have c1 := cell_of w b 2 _ 54 _ h.blk rfl
    have hc := cell_of w gc k _ 5 _ h.scr ((bv_get m.scr _ _).2 ⟨_, lb_of m.scr k (by rw [h.sl]; omega), rfl⟩)
    have el : ld m ((k : Int) + 49152) = ((m.scr.getD k 0).toNat : Int) := by
      rw [el0, lb, show ((k : Int) + 49152 - 49152).toNat = k by omega]
    clear el0
    rw [el]
    have e1 : IntKind.i64.wrap ((k : Int) + 49152 - 49152) = (k : Int) := by rw [show (k : Int) + 49152 - 49152 = (k : Int) by omega]; exact i64_id _ (by omega) (by omega)
    have i1 : (k : Int) < 3072 := by omega
    generalize ((m.scr.getD k 0).toNat : Int) = y at *
    clear h el
    go_enter Tryz.func89, Tryz.ntmps89
    go_wp2
    go_ret
    exact ⟨rfl, Below.refl _ _⟩
  have := rload_port b z (by omega) h1 w hm
  refine this.mono ?_
  rintro e w' ⟨rfl, rfl⟩
  exact ⟨by simp only [ld, a1, a2, a3, a4, if_false], Below.refl _ _⟩
theorem rcell_any (b : Nat) (z : Int) (h0 : 0 ≤ z) (h1 : z < 65536) (w : World) {F : Nat → Prop} {m : MS} (hm : IsR w F b m) :
    Calls Tryz.prog 62 #[.pointer (some ⟨b, 0, none⟩), .int .u16 z] w fun e w' => e = .returned (.int .u16 (cl m z)) ∧ Below w.heap.size w w' := by
  have hl := rload_any b z h0 h1 w hm
  have l1 := (ld_bound m hm.1 z)
  have l2 := (ld_bound m hm.1 ((z + 1) % 65536))
  have e1 := u16_wrap (z + 1)
  go_enter Tryz.func62, Tryz.ntmps62
  go_wp2_with fail
  refine hl.mono ?_
  rintro e w1 ⟨rfl, hb1⟩
  have hl2 := rload_any b ((z + 1) % 65536) (by omega) (by omega) w1 (hm.below hb1)
  go_wp2_with fail
  refine hl2.mono ?_
  rintro e w2 ⟨rfl, hb2⟩
  have e3 : ∀ y, IntKind.u16.wrap (ld m z + y) = (ld m z + y) % 65536 := fun y => u16_wrap _
  go_wp2
  go_ret
  refine ⟨congrArg Ending.returned (congrArg (Value.int .u16) ?_), hb1.trans (hb2.mono hb1.size)⟩
  unfold cl
  omega
end Go.Proofs.YtgponcjjnjpfkabGreat.M
/-! The reference: Store and the calls upon it. -/
namespace Go.Proofs.YtgponcjjnjpfkabGreat.M
open Go.RowKit
open Go.Proofs
set_option linter.unusedVariables false
set_option linter.unusedSimpArgs false
def RD (w w' : World) (F : Nat → Prop) (b : Nat) (m' : MS) : Prop := IsR w' (gr F w w') b m' ∧ Tc F w w'
theorem inO_congr {m m' : MS} (h : m'.banks = m.banks) (k : Nat) : inO m' k = inO m k := by unfold inO; rw [h]
theorem RD.same {w w2 : World} {F : Nat → Prop} {b : Nat} {m : MS} (h : IsR w F b m) (hb : Below w.heap.size w w2) : RD w w2 F b m :=
  ⟨(h.below hb).mono fun i _ f => .inl f, Tc.of_below hb fun i h1 h2 => by omega⟩
theorem RD.set {w w2 : World} {F : Nat → Prop} {b : Nat} {m' : MS} {u : Value} {gr' gc : Nat} {gs : List (Nat × Nat)} {tv : Value} (hb : Below w.heap.size w w2) (g i : Nat) (v : Value) (hg : F g) (wf : Wf m') (h : MemR (w2.setCell ⟨g, i, none⟩ v) F b (inO m' 16) m' u gr' gc gs tv) : RD w (w2.setCell ⟨g, i, none⟩ v) F b m' :=
  ⟨⟨wf, u, gr', gc, gs, tv, h.mono fun i _ f => .inl f⟩, ((Tc.of_below hb fun i h1 h2 => by omega).setCell g i hg v)⟩
theorem RD.next {w w1 w2 : World} {F : Nat → Prop} {b : Nat} {m1 m2 : MS} (h1 : RD w w1 F b m1) (h2 : RD w1 w2 (gr F w w1) b m2) : RD w w2 F b m2 := by
  refine ⟨h2.1.mono ?_, h1.2.trans h2.2 (fun _ f => f) ?_⟩
  · rintro i hi ((f | ⟨a, c⟩) | ⟨a, c⟩)
    · exact .inl f
    · exact .inr ⟨a, hi⟩
    · exact .inr ⟨Nat.le_trans h1.2.size a, c⟩
  · rintro i hi (f | ⟨a, c⟩)
    · exact f
    · omega
theorem MemR.tone {W W1 W2 : World} {F : Nat → Prop} {b : Nat} {bs : List (Int × List UInt8)} {m : MS} {u : Value} {gr' gc : Nat} {gs : List (Nat × Nat)} {tv tv' : Value} (h : MemR W F b bs m u gr' gc gs tv) (hb : Below W.heap.size W W1) (hg : Grew W1 W2 tv tv') (t : Int × Int × Int)
    (ho : W2.ownsRow 0 99 3 tv' (m.tones.length + 1) (tc m.tones ++ tcell t)) :
    MemR (W2.setCell ⟨b, 9, none⟩ tv') (gr F W W2) b bs { m with tones := m.tones ++ [t] } u gr' gc gs tv' ∧ Tc F W (W2.setCell ⟨b, 9, none⟩ tv') := by
  have k2 : ∀ k, k < W.heap.size → tv.ownBlock ≠ some k → W2.heap[k]? = W.heap[k]? := fun k hk hn => (hg.block k (Nat.lt_of_lt_of_le hk hb.size) (fun e => hn e.symm)).trans (hb.block k hk)
  have blk2 := (k2 b (lt_of h.blk) (fun e => h.nt b e rfl)).trans h.blk
  have hne : ∀ g, tv'.ownBlock = some g → g ≠ b := by
    intro g e c; subst c
    obtain ⟨cur, e2⟩ := own_block ho g e
    rw [blk2] at e2; simp at e2
  have k3 : ∀ k, k < W.heap.size → k ≠ b → tv.ownBlock ≠ some k → (W2.setCell ⟨b, 9, none⟩ tv').heap[k]? = W.heap[k]? := fun k hk h1 h2 => (setCell_other _ _ _ _ _ h1).trans (k2 k hk h2)
  refine ⟨⟨by rw [setCell_heap W2 b 9 _ 54 tv' blk2]; rfl, ⟨h.banks.len, own_kept h.banks.row fun g e hg2 => k3 g hg2 (h.nu g e) ?_, fun j t g a c => ?_, h.banks.nd⟩, ?_, ?_, h.rl, h.sl, ?_, h.nr, h.nc, h.rc, .inl h.fb, fun g e => .inl (h.fu g e), fun y hy => .inl (h.fg y hy), .inl h.fr, .inl h.fc, ?_⟩, ?_⟩
  · intro c
    obtain ⟨c1, e1⟩ := own_block h.banks.row g e
    obtain ⟨c2, e2⟩ := own_block h.tones g c
    rw [e1] at e2; simp at e2
  · obtain ⟨x1, x2, x3, x4⟩ := h.banks.dat j t g a c
    obtain ⟨n1, n2, n3⟩ := h.n5 _ _ x1
    exact ⟨(k3 _ (lt_of x1) n1 n3).trans x1, x2, x3, x4⟩
  · obtain ⟨n1, n2, n3⟩ := h.n5 _ _ h.ram
    exact (k3 _ (lt_of h.ram) n1 n3).trans h.ram
  · obtain ⟨n1, n2, n3⟩ := h.n5 _ _ h.scr
    exact (k3 _ (lt_of h.scr) n1 n3).trans h.scr
  · refine own_kept ?_ fun g e _ => setCell_other _ _ _ _ _ (hne g e)
    rw [tc_append]
    simpa [tc] using ho
  · intro g e
    rcases hg.own with c | c
    · exact .inl (h.ft g (c ▸ e))
    · exact .inr ⟨Nat.le_trans hb.size (c g e), (ho.lt g e).2⟩
  · refine ⟨hg.os.trans hb.os, hg.tape.trans hb.tape, hg.output.trans hb.output, by rw [setCell_size]; exact Nat.le_trans hb.size hg.size, fun k hk hn => ?_⟩
    exact (setCell_other _ _ _ _ _ (by rintro rfl; exact hn h.fb)).trans (k2 k hk (fun e => hn (h.ft k e)))
set_option maxHeartbeats 2000000
set_option maxRecDepth 100000
theorem rplay (b : Nat) (x : UInt8) (w : World) {F : Nat → Prop} {m : MS} (hm : IsR w F b m) (ht : m.tones.length ≤ 1000000) :
    Calls Tryz.prog 13 #[.pointer (some ⟨b, 0, none⟩), .int .u16 65286, .int .u8 (bt x)] w fun e w' => e = .returned (.tuple #[]) ∧ RD w w' F b (stp m 65286 x) := by
  obtain ⟨hw, u, gr', gc, gs, tv, hm⟩ := hm
  have c2 := cell_of w b 6 _ 54 _ hm.blk rfl
  have z2 := frozen_of w b 6 _ 54 hm.blk
  have hb := bt_bound x
  have h1 : MemR (w.setCell ⟨b, 6, none⟩ (.int .u8 (bt x))) F b (inO m 16) { m with vol := bt x } u gr' gc gs tv := hm.reg 6 _ _ (fun _ _ => rfl) rfl rfl rfl
  have hwf : Wf { m with vol := bt x, tones := m.tones ++ [(m.cyc, m.pitch, bt x)] } := ⟨hw.ram, hw.scr, hw.ch0, hw.ch1, hw.pad0, hw.pad1, hw.pitch0, hw.pitch1, hb.1, hb.2, hw.time0, hw.time1, hw.bk⟩
  obtain ⟨w1, hw1⟩ : ∃ w1, w1 = w.setCell ⟨b, 6, none⟩ (.int .u8 (bt x)) := ⟨_, rfl⟩
  have t1 : Tc F w w1 := by rw [hw1]; exact (Tc.refl F w).setCell b _ hm.fb _
  simp only [← hw1] at h1
  have d2 := cell_of w1 b 5 _ 54 _ h1.blk rfl
  have d5 := cell_of w1 b 8 _ 54 _ h1.blk rfl
  have d6 := cell_of w1 b 9 _ 54 _ h1.blk rfl
  have z6 := frozen_of w1 b 9 _ 54 h1.blk
  have e64 : IntKind.i64.wrap 65286 = 65286 := by decide
  go_enter Tryz.func13, Tryz.ntmps13
  go_wp2_with fail
  rw [← hw1]
  clear c2 z2
  obtain ⟨W1, hW1⟩ : ∃ W1, W1 = w1.drew.alloc (.cells #[.int .i64 m.cyc, .int .u16 m.pitch, .int .u8 (bt x)] 99) := ⟨_, rfl⟩
  have hbl : Below w1.heap.size w1 W1 := by rw [hW1]; exact ((Below.refl w1.heap.size w1).drew).alloc (Nat.le_refl _) _
  have hown : (w1.drew.alloc (.cells #[.int .i64 m.cyc, .int .u16 m.pitch, .int .u8 (bt x)] 99)).ownsRow 0 99 3 tv m.tones.length (tc m.tones) := by
    rw [← hW1]; exact own_kept h1.tones fun g _ hg => hbl.block g hg
  have hcs : Cs (w1.drew.alloc (.cells #[.int .i64 m.cyc, .int .u16 m.pitch, .int .u8 (bt x)] 99)) (.slice (some ⟨w1.heap.size, 0, none⟩) 1 1) 3 1 (tcell (m.cyc, m.pitch, bt x)) := by
    refine .inr ⟨⟨w1.heap.size, 0, none⟩, 1, rfl, rfl, ?_, tc_one [(m.cyc, m.pitch, bt x)]⟩
    intro j v hj
    have hn : (w1.drew.alloc (.cells #[.int .i64 m.cyc, .int .u16 m.pitch, .int .u8 (bt x)] 99)).heap[w1.heap.size]? = some (.cells (tcell (m.cyc, m.pitch, bt x)).toArray 99 (0, 0)) := heap_alloc_new w1.drew _
    have e : (⟨w1.heap.size, 0, none⟩ : Addr).add j = ⟨w1.heap.size, j, none⟩ := by unfold Addr.add; split <;> simp_all
    rw [e]
    exact cell_of _ _ _ _ 99 v hn hj
  have b1 : (m.tones.length + 1) * 16 ≤ room := by unfold room; omega
  have b2 : m.tones.length + 1 ≤ maxLen := by unfold maxLen; omega
  have hne : ∀ g, tv.ownBlock = some g → g ≠ b := fun g e => h1.nt g e
  have hend : ∀ v' w2, w2.ownsRow 0 99 3 v' (m.tones.length + 1) (tc m.tones ++ tcell (m.cyc, m.pitch, bt x)) → Grew (w1.drew.alloc (.cells #[.int .i64 m.cyc, .int .u16 m.pitch, .int .u8 (bt x)] 99)) w2 tv v' →
      w2.cell? ⟨b, 9, none⟩ = some tv ∧ w2.frozen? ⟨b, 9, none⟩ = false ∧ RD w (w2.setCell ⟨b, 9, none⟩ v') F b (stp m 65286 x) := by
    intro v' w2 ho hg
    rw [← hW1] at hg
    have hk : w2.heap[b]? = w1.heap[b]? := (hg.block b (Nat.lt_of_lt_of_le (lt_of h1.blk) hbl.size) (fun e => hne b e.symm rfl)).trans (hbl.block b (lt_of h1.blk))
    refine ⟨(World.cell?_of_block (w := w1) hk).trans d6, (World.frozen?_of_block (w := w1) hk).trans z6, ?_⟩
    obtain ⟨hM, hT⟩ := h1.tone hbl hg (m.cyc, m.pitch, bt x) ho
    have e : stp m 65286 x = { m with vol := bt x, tones := m.tones ++ [(m.cyc, m.pitch, bt x)] } := by simp [stp]
    rw [e]
    refine ⟨⟨hwf, _, _, _, _, _, hM.mono ?_⟩, t1.trans hT (fun _ f => f) (fun _ _ f => f)⟩
    intro i hi g
    rcases g with g | ⟨g1, g2⟩
    · exact .inl g
    · refine .inr ⟨Nat.le_trans t1.size g1, hi⟩
  have d6a : (w1.alloc (.cells #[.int .i64 m.cyc, .int .u16 m.pitch, .int .u8 (bt x)] 99)).cell? ⟨b, 9, none⟩ = some tv := (World.cell?_of_block (w := w1) (Below.heap_alloc w1 _ b (lt_of h1.blk))).trans d6
  clear hW1 hw1 hbl hne h1 t1 hw hm hwf
  go_region_law
    (refine step_append_row rfl (.tmp 96) (.tmp 107) 52 99 (.agg #[.int .i64 0, .int .u16 0, .int .u8 0]) 3 16 Tryz.underlying52 info90 rfl (by decide) rfl 0 tv m.tones.length (tc m.tones) (by simp [Act.eval]) hown (.slice (some ⟨w1.heap.size, 0, none⟩) 1 1) 1 (tcell (m.cyc, m.pitch, bt x)) (by simp [Act.eval]) hcs b1 b2 (Nat.zero_le _) ?_; intro v' w2 ho hg; obtain ⟨g9, cap9, rfl⟩ := own_pos ho (Nat.succ_pos m.tones.length); obtain ⟨f6, g6, hD⟩ := hend (.slice (some ⟨g9, 0, none⟩) (m.tones.length + 1) cap9) w2 ho hg; clear hend)
  all_goals
    go_wp2
    go_end0
    exact ⟨rfl, hD⟩
end Go.Proofs.YtgponcjjnjpfkabGreat.M
/-! The reference: Store and the calls upon it. -/
namespace Go.Proofs.YtgponcjjnjpfkabGreat.M
open Go.RowKit
open Go.Proofs
set_option linter.unusedVariables false
set_option linter.unusedSimpArgs false
set_option maxHeartbeats 2000000
set_option maxRecDepth 100000
theorem neq_nil (W : World) (p : Option Addr) (n c : Nat) : (binOp .neq 51 (.slice p n c) (.slice none 0 0)).run Tryz.prog W = .ok (.bool (!p.isNone)) W := by
  have h : ∀ d : Nat, (Op.equalIn (d + 1) 51 (.slice p n c) (.slice none 0 0)).run Tryz.prog W = .ok p.isNone W := fun d => by
    cases p <;> simp [Op.equalIn, run_underlying Tryz.underlying51]
  have h2 : (Op.equal 51 (.slice p n c) (.slice none 0 0)).run Tryz.prog W = .ok p.isNone W := h 9999
  simp [binOp, h2]
theorem mul256 (x : UInt8) : IntKind.u16.wrap (256 * bt x) = 256 * bt x := by have := bt_bound x; rw [u16_wrap]; omega
theorem rstore_port (b : Nat) (z : Int) (h0 : 52224 ≤ z) (h1 : z < 65536) (x : UInt8) (w : World) {F : Nat → Prop} {m : MS} (hm : IsR w F b m) (ht : m.tones.length ≤ 1000000) :
    Calls Tryz.prog 13 #[.pointer (some ⟨b, 0, none⟩), .int .u16 z, .int .u8 (bt x)] w fun e w' => e = .returned (.tuple #[]) ∧ RD w w' F b (stp m z x) := by
  have hb := bt_bound x
  have e0 := i64_id z (by omega) h1
  have d1 : decide (z < 16384) = false := by simp; omega
  have d2 : decide (z < 32768) = false := by simp; omega
  have d3 : decide (z < 49152) = false := by simp; omega
  have d4 : decide (z < 52224) = false := by simp; omega
  by_cases a3 : z = 65286
  · subst a3; exact rplay b x w hm ht
  obtain ⟨hw, u, gr', gc, gs, tv, h⟩ := id hm
  by_cases a0 : z = 65280
  · subst a0
    have e : stp m 65280 x = { m with ch := bt x % 16 } := by simp [stp]
    have c2 := cell_of w b 3 _ 54 _ h.blk rfl
    have z2 := frozen_of w b 3 _ 54 h.blk
    have hr : IntKind.u8.wrap ((bt x).tmod 16) = bt x % 16 := by rw [u8_wrap, Int.tmod_eq_emod_of_nonneg hb.1]; omega
    have hfin : RD w (w.setCell ⟨b, 3, none⟩ (.int .u8 (bt x % 16))) F b (stp m 65280 x) := by
      rw [e]
      exact RD.set (Below.refl _ _) b 3 _ h.fb ⟨hw.ram, hw.scr, by simp only; omega, by simp only; omega, hw.pad0, hw.pad1, hw.pitch0, hw.pitch1, hw.vol0, hw.vol1, hw.time0, hw.time1, hw.bk⟩ (by rw [inO_congr (m' := { m with ch := bt x % 16 }) (m := m) rfl]; exact h.reg 3 _ _ (fun _ _ => rfl) rfl rfl rfl)
    have HF : Hid _ := hfin
    clear hfin h hw hm e0 d1 d2 d3 d4 e
    go_enter Tryz.func13, Tryz.ntmps13
    go_wp2
    go_end0
    exact ⟨rfl, HF.out⟩
  by_cases a1 : z = 65284
  · subst a1
    have e : stp m 65284 x = { m with pitch := m.pitch / 256 * 256 + bt x } := by simp [stp]
    have c2 := cell_of w b 5 _ 54 _ h.blk rfl
    have z2 := frozen_of w b 5 _ 54 h.blk
    have hp0 := hw.pitch0
    have hp1 := hw.pitch1
    have q1 : IntKind.u16.wrap (m.pitch.tdiv 256) = m.pitch / 256 := by rw [u16_wrap, Int.tdiv_eq_ediv_of_nonneg hp0]; omega
    have q2 : IntKind.u16.wrap (m.pitch / 256 * 256) = m.pitch / 256 * 256 := by rw [u16_wrap]; omega
    have q3 : IntKind.u16.wrap (bt x) = bt x := by rw [u16_wrap]; omega
    have q4 : IntKind.u16.wrap (m.pitch / 256 * 256 + bt x) = m.pitch / 256 * 256 + bt x := by rw [u16_wrap]; omega
    have hfin : RD w (w.setCell ⟨b, 5, none⟩ (.int .u16 (m.pitch / 256 * 256 + bt x))) F b (stp m 65284 x) := by
      rw [e]
      exact RD.set (Below.refl _ _) b 5 _ h.fb ⟨hw.ram, hw.scr, hw.ch0, hw.ch1, hw.pad0, hw.pad1, by simp only; omega, by simp only; omega, hw.vol0, hw.vol1, hw.time0, hw.time1, hw.bk⟩ (by rw [inO_congr (m' := { m with pitch := m.pitch / 256 * 256 + bt x }) (m := m) rfl]; exact h.reg 5 _ _ (fun _ _ => rfl) rfl rfl rfl)
    have HF : Hid _ := hfin
    clear hfin h hw hm e0 d1 d2 d3 d4 e
    go_enter Tryz.func13, Tryz.ntmps13
    go_wp2
    go_end0
    exact ⟨rfl, HF.out⟩
  by_cases a2 : z = 65285
  · subst a2
    have e : stp m 65285 x = { m with pitch := m.pitch % 256 + 256 * bt x } := by simp [stp]
    have c2 := cell_of w b 5 _ 54 _ h.blk rfl
    have z2 := frozen_of w b 5 _ 54 h.blk
    have hp0 := hw.pitch0
    have hp1 := hw.pitch1
    have q1 : IntKind.u16.wrap (m.pitch.tmod 256) = m.pitch % 256 := by rw [u16_wrap, Int.tmod_eq_emod_of_nonneg hp0]; omega
    have q2 := mul256 x
    have q3 : IntKind.u16.wrap (bt x) = bt x := by rw [u16_wrap]; omega
    have q4 : IntKind.u16.wrap (m.pitch % 256 + 256 * bt x) = m.pitch % 256 + 256 * bt x := by rw [u16_wrap]; omega
    have hfin : RD w (w.setCell ⟨b, 5, none⟩ (.int .u16 (m.pitch % 256 + 256 * bt x))) F b (stp m 65285 x) := by
      rw [e]
      exact RD.set (Below.refl _ _) b 5 _ h.fb ⟨hw.ram, hw.scr, hw.ch0, hw.ch1, hw.pad0, hw.pad1, by simp only; omega, by simp only; omega, hw.vol0, hw.vol1, hw.time0, hw.time1, hw.bk⟩ (by rw [inO_congr (m' := { m with pitch := m.pitch % 256 + 256 * bt x }) (m := m) rfl]; exact h.reg 5 _ _ (fun _ _ => rfl) rfl rfl rfl)
    have HF : Hid _ := hfin
    clear hfin h hw hm e0 d1 d2 d3 d4 e
    go_enter Tryz.func13, Tryz.ntmps13
    go_wp2
    go_end0
    exact ⟨rfl, HF.out⟩
  have f0 : (z == 65280) = false := by simpa using a0
  have f1 : (z == 65284) = false := by simpa using a1
  have f2 : (z == 65285) = false := by simpa using a2
  have f3 : (z == 65286) = false := by simpa using a3
  have e : stp m z x = m := by unfold stp; simp [a0, a1, a2, a3]
  rw [e]
  clear h hw
  go_enter Tryz.func13, Tryz.ntmps13
  go_wp2
  go_end0
  exact ⟨rfl, RD.same hm (Below.refl _ _)⟩
theorem rstore_any (b : Nat) (z : Int) (h0 : 0 ≤ z) (h1 : z < 65536) (x : UInt8) (w : World) {F : Nat → Prop} {m : MS} (hm : IsR w F b m) (ht : m.tones.length ≤ 1000000) :
    Calls Tryz.prog 13 #[.pointer (some ⟨b, 0, none⟩), .int .u16 z, .int .u8 (bt x)] w fun e w' => e = .returned (.tuple #[]) ∧ RD w w' F b (st m z x) := by
  have e0 := i64_id z h0 h1
  by_cases a1 : z < 16384
  · have el : st m z x = m := by simp only [st, a1, if_true]
    rw [el]
    have d1 : decide (z < 16384) = true := by simpa using a1
    go_enter Tryz.func13, Tryz.ntmps13
    go_wp2
    go_end0
    exact ⟨rfl, RD.same hm (Below.refl _ _)⟩
  have d1 : decide (z < 16384) = false := by simpa using a1
  by_cases a2 : z < 32768
  · obtain ⟨hw, u, gr', gc, gs, tv, h⟩ := id hm
    have d2 : decide (z < 32768) = true := by simpa using a2
    have hbk := rbank_any b (inO m 16) w h hw.ch0 hw.ch1 (inO_len m 16)
    have hn : m.ch = (m.ch.toNat : Int) := by have := hw.ch0; omega
    have hch : m.ch.toNat < 16 := by have := hw.ch1; have := hw.ch0; omega
    have HEN : Hid (m.banks m.ch.toNat = none → st m z x = m) := fun hnone => by simp only [st, a1, a2, if_true, if_false, hnone]
    have HES : Hid (∀ l, m.banks m.ch.toNat = some l → st m z x = { m with banks := upd m.banks m.ch.toNat (l.set (z - 16384).toNat x) }) := fun l hbn => by simp only [st, a1, a2, if_true, if_false, hbn]
    have HH : Hid _ := h
    have HM : Hid _ := hm
    clear h hm
    have q0 := eql_nil 51 5 Tryz.underlying51
    have q9 : ∀ (W : World) (p : Option Addr) (n c : Nat), (binOp .neq 51 (.slice p n c) (.slice none 0 0)).run Tryz.prog W = .ok (.bool (!p.isNone)) W := neq_nil
    go_enter Tryz.func13, Tryz.ntmps13
    go_wp2_with fail
    refine hbk.mono ?_
    rintro e w2 ⟨hb2, hc⟩
    rcases hc with ⟨rfl, hno⟩ | ⟨i, t, g, hi, hg, htc, rfl⟩
    · have hnone : m.banks m.ch.toNat = none := by
        cases hb : m.banks m.ch.toNat with
        | none => rfl
        | some l => exact absurd (by rw [← hn]) (hno _ ((inO_mem m m.ch.toNat l 16).2 ⟨hch, hb⟩))
      have HE : Hid _ := HEN.out hnone
      clear hno hnone HEN HES
      go_wp2
      go_end0
      exact ⟨rfl, by rw [HE.out]; exact RD.same HM.out hb2⟩
    · have hmem : (((m.ch.toNat : Nat) : Int), t.2) ∈ inO m 16 := by
        have : t = (((m.ch.toNat : Nat) : Int), t.2) := by rw [← hn, ← htc]
        rw [← this]; exact List.mem_of_getElem? hi
      have hbn := ((inO_mem m m.ch.toNat t.2 16).1 hmem).2
      have h2 := HH.out.kept (W' := w2) fun j hj _ => hb2.block j hj
      obtain ⟨x1, x2, x3, x4⟩ := h2.banks.dat i t g hi hg
      obtain ⟨k, hk⟩ : ∃ k : Nat, z = k + 16384 := ⟨(z - 16384).toNat, by omega⟩
      have hkl : k < 16384 := by omega
      have hc := cell_of w2 g.1 k _ 5 _ x1 ((bv_get t.2 _ _).2 ⟨_, lb_of t.2 k (by omega), rfl⟩)
      have hz := frozen_of w2 g.1 k _ 5 x1
      have el := HES.out _ hbn
      rw [show (z - 16384).toNat = k by omega] at el
      have hfin : RD w (w2.setCell ⟨g.1, k, none⟩ (.int .u8 (bt x))) F b (st m z x) := by
        rw [el]
        refine RD.set hb2 g.1 k _ (HH.out.fg g (List.mem_of_getElem? hg)) (hw.bank _ k t.2 x hbn) (u := u) (gr' := gr') (gc := gc) (gs := gs) (tv := tv) ?_
        rw [inO_setB m m.ch.toNat t.2 _ hbn 16, show ((m.ch.toNat : Nat) : Int) = t.1 from hn.symm.trans htc.symm]
        exact h2.bankS (inO_keys m 16).1 i t g hi hg k x _ rfl rfl rfl (fun _ _ => rfl)
      have e1 : IntKind.i64.wrap (z - 16384) = (k : Int) := by rw [hk, show (k : Int) + 16384 - 16384 = (k : Int) by omega]; exact i64_id _ (by omega) (by omega)
      have i1 : (k : Int) < 16384 := by omega
      generalize (t.2.getD k 0).toNat = y at *
      have HF : Hid _ := hfin
      clear hmem hbn hi hg htc x1 x2 x3 x4 el hk hb2 h2 hfin HEN HES
      go_wp2
      go_end0
      exact ⟨rfl, HF.out⟩
  have d2 : decide (z < 32768) = false := by simpa using a2
  by_cases a3 : z < 49152
  · obtain ⟨hw, u, gr', gc, gs, tv, h⟩ := hm
    have d3 : decide (z < 49152) = true := by simpa using a3
    have el : st m z x = { m with ram := m.ram.set (z - 32768).toNat x } := by simp only [st, a1, a2, a3, if_true, if_false]
    obtain ⟨k, rfl⟩ : ∃ k : Nat, z = k + 32768 := ⟨(z - 32768).toNat, by omega⟩
    rw [show ((k : Int) + 32768 - 32768).toNat = k by omega] at el
    have c1 := cell_of w b 1 _ 54 _ h.blk rfl
    have hc := cell_of w gr' k _ 5 _ h.ram ((bv_get m.ram _ _).2 ⟨_, lb_of m.ram k (by rw [h.rl]; omega), rfl⟩)
    have hz := frozen_of w gr' k _ 5 h.ram
    have hfin : RD w (w.setCell ⟨gr', k, none⟩ (.int .u8 (bt x))) F b (st m ((k : Int) + 32768) x) := by
      rw [el]
      exact RD.set (Below.refl _ _) gr' k _ h.fr ⟨by simp [hw.ram], hw.scr, hw.ch0, hw.ch1, hw.pad0, hw.pad1, hw.pitch0, hw.pitch1, hw.vol0, hw.vol1, hw.time0, hw.time1, hw.bk⟩ (by rw [inO_congr (m' := { m with ram := m.ram.set k x }) (m := m) rfl]; exact h.ramS k x)
    have e1 : IntKind.i64.wrap ((k : Int) + 32768 - 32768) = (k : Int) := by rw [show (k : Int) + 32768 - 32768 = (k : Int) by omega]; exact i64_id _ (by omega) (by omega)
    have i1 : (k : Int) < 16384 := by omega
    generalize (m.ram.getD k 0).toNat = y at *
    have HF : Hid _ := hfin
    clear h el hfin hw
    go_enter Tryz.func13, Tryz.ntmps13
    go_wp2
    go_end0
    exact ⟨rfl, HF.out⟩
  have d3 : decide (z < 49152) = false := by simpa using a3
  by_cases a4 : z < 52224
  · obtain ⟨hw, u, gr', gc, gs, tv, h⟩ := hm
    have d4 : decide (z < 52224) = true := by simpa using a4
    have el : st m z x = { m with scr := m.scr.set (z - 49152).toNat x } := by simp only [st, a1, a2, a3, a4, if_true, if_false]
    obtain ⟨k, rfl⟩ : ∃ k : Nat, z = k + 49152 := ⟨(z - 49152).toNat, by omega⟩
    rw [show ((k : Int) + 49152 - 49152).toNat = k by omega] at el
    have c1 := cell_of w b 2 _ 54 _ h.blk rfl
    have hc := cell_of w gc k _ 5 _ h.scr ((bv_get m.scr _ _).2 ⟨_, lb_of m.scr k (by rw [h.sl]; omega), rfl⟩)
    have hz := frozen_of w gc k _ 5 h.scr
    have hfin : RD w (w.setCell ⟨gc, k, none⟩ (.int .u8 (bt x))) F b (st m ((k : Int) + 49152) x) := by
      rw [el]
      exact RD.set (Below.refl _ _) gc k _ h.fc ⟨hw.ram, by simp [hw.scr], hw.ch0, hw.ch1, hw.pad0, hw.pad1, hw.pitch0, hw.pitch1, hw.vol0, hw.vol1, hw.time0, hw.time1, hw.bk⟩ (by rw [inO_congr (m' := { m with scr := m.scr.set k x }) (m := m) rfl]; exact h.scrS k x)
    have e1 : IntKind.i64.wrap ((k : Int) + 49152 - 49152) = (k : Int) := by rw [show (k : Int) + 49152 - 49152 = (k : Int) by omega]; exact i64_id _ (by omega) (by omega)
    have i1 : (k : Int) < 3072 := by omega
    generalize (m.scr.getD k 0).toNat = y at *
    have HF : Hid _ := hfin
    clear h el hfin hw
    go_enter Tryz.func13, Tryz.ntmps13
    go_wp2
    go_end0
    exact ⟨rfl, HF.out⟩
  have := rstore_port b z (by omega) h1 x w hm ht
  simpa only [st, a1, a2, a3, a4, if_false] using this
end Go.Proofs.YtgponcjjnjpfkabGreat.M
/-! The reference: SetCell, Choose, Play, Plot, Begin. -/
namespace Go.Proofs.YtgponcjjnjpfkabGreat.M
open Go.RowKit
open Go.Proofs
set_option linter.unusedVariables false
set_option linter.unusedSimpArgs false
set_option maxHeartbeats 1000000
set_option maxRecDepth 100000
theorem rsetCell_any (b : Nat) (z : Int) (h0 : 0 ≤ z) (h1 : z < 65536) (X : Int) (x0 : 0 ≤ X) (x1 : X < 65536) (w : World) {F : Nat → Prop} {m : MS} (hm : IsR w F b m) (ht : m.tones.length ≤ 999999) :
    Calls Tryz.prog 88 #[.pointer (some ⟨b, 0, none⟩), .int .u16 z, .int .u16 X] w fun e w' => e = .returned (.tuple #[]) ∧ RD w w' F b (sc m z X) := by
  have hs := rstore_any b z h0 h1 (b8 X) w hm (by omega)
  have e1 : IntKind.u8.wrap X = bt (b8 X) := by rw [u8_wrap, bt_b8]
  have e2 := u16_wrap (z + 1)
  unfold sc
  obtain ⟨y, hy⟩ : ∃ y, y = b8 (X / 256) := ⟨_, rfl⟩
  rw [← hy]
  have e3 : IntKind.u8.wrap (X / 256) = bt y := by rw [u8_wrap, hy, bt_b8]
  have e4 : IntKind.u16.wrap (X.tdiv 256) = X / 256 := by rw [u16_wrap, Int.tdiv_eq_ediv_of_nonneg x0]; omega
  have e5 : X / 256 = bt y := by rw [hy, bt_b8]; omega
  clear hy
  go_enter Tryz.func88, Tryz.ntmps88
  go_wp2_with fail
  refine hs.mono ?_
  rintro e w1 ⟨rfl, hD⟩
  have ht2 := st_tones m z (b8 X)
  have hs2 := rstore_any b ((z + 1) % 65536) (by omega) (by omega) y w1 hD.1 (by omega)
  go_wp2_with fail
  refine hs2.mono ?_
  rintro e w2 ⟨rfl, hD2⟩
  go_wp2
  go_end0
  exact ⟨rfl, hD.next hD2⟩
theorem rchoose_any (b : Nat) (X : Int) (w : World) {F : Nat → Prop} {m : MS} (hm : IsR w F b m) (ht : m.tones.length ≤ 1000000) :
    Calls Tryz.prog 92 #[.pointer (some ⟨b, 0, none⟩), .int .u16 X] w fun e w' => e = .returned (.tuple #[]) ∧ RD w w' F b (st m 65280 (b8 X)) := by
  have hs := rstore_any b 65280 (by omega) (by omega) (b8 X) w hm ht
  have e1 : IntKind.u8.wrap X = bt (b8 X) := by rw [u8_wrap, bt_b8]
  go_enter Tryz.func92, Tryz.ntmps92
  go_wp2_with fail
  refine hs.mono ?_
  rintro e w1 ⟨rfl, hD⟩
  go_wp2
  go_end0
  exact ⟨rfl, hD⟩
theorem rplay_any (b : Nat) (X : Int) (x0 : 0 ≤ X) (x1 : X < 65536) (v : UInt8) (w : World) {F : Nat → Prop} {m : MS} (hm : IsR w F b m) (ht : m.tones.length ≤ 999990) :
    Calls Tryz.prog 91 #[.pointer (some ⟨b, 0, none⟩), .int .u16 X, .int .u8 (bt v)] w fun e w' => e = .returned (.tuple #[]) ∧ RD w w' F b (st (sc m 65284 X) 65286 v) := by
  have hs := rsetCell_any b 65284 (by omega) (by omega) X x0 x1 w hm (by omega)
  have t1 := st_tones m 65284 (b8 X)
  have t2 := st_tones (st m 65284 (b8 X)) ((65284 + 1) % 65536) (b8 (X / 256))
  go_enter Tryz.func91, Tryz.ntmps91
  go_wp2_with fail
  refine hs.mono ?_
  rintro e w1 ⟨rfl, hD⟩
  have hs2 := rstore_any b 65286 (by omega) (by omega) v w1 hD.1 (by unfold sc; omega)
  go_wp2_with fail
  refine hs2.mono ?_
  rintro e w2 ⟨rfl, hD2⟩
  go_wp2
  go_end0
  exact ⟨rfl, hD.next hD2⟩
theorem rplot_any (b : Nat) (X Y C : Int) (x0 : 0 ≤ X) (x1 : X < 65536) (y0 : 0 ≤ Y) (y1 : Y < 65536) (w : World) {F : Nat → Prop} {m : MS} (hm : IsR w F b m) (ht : m.tones.length ≤ 1000000) :
    Calls Tryz.prog 90 #[.pointer (some ⟨b, 0, none⟩), .int .u16 X, .int .u16 Y, .int .u16 C] w fun e w' => e = .returned (.tuple #[]) ∧ RD w w' F b (plt m X Y C) := by
  by_cases a1 : X < 64
  · by_cases a2 : Y < 48
    · have hs := rstore_any b (49152 + 64 * Y + X) (by omega) (by omega) (b8 C) w hm ht
      have e1 : IntKind.u8.wrap C = bt (b8 C) := by rw [u8_wrap, bt_b8]
      have e2 : IntKind.u16.wrap (64 * Y) = 64 * Y := by rw [u16_wrap]; omega
      have e3 : IntKind.u16.wrap (49152 + 64 * Y) = 49152 + 64 * Y := by rw [u16_wrap]; omega
      have e4 : IntKind.u16.wrap (49152 + 64 * Y + X) = 49152 + 64 * Y + X := by rw [u16_wrap]; omega
      have ep : plt m X Y C = st m (49152 + 64 * Y + X) (b8 C) := by simp [plt, a1, a2]
      rw [ep]
      go_enter Tryz.func90, Tryz.ntmps90
      go_wp2_with fail
      refine hs.mono ?_
      rintro e w1 ⟨rfl, hD⟩
      go_wp2
      go_end0
      exact ⟨rfl, hD⟩
    · have ep : plt m X Y C = m := by simp [plt, a2]
      rw [ep]
      have a3 : decide (Y < 48) = false := by simpa using a2
      go_enter Tryz.func90, Tryz.ntmps90
      go_wp2
      go_end0
      exact ⟨rfl, RD.same hm (Below.refl _ _)⟩
  · have ep : plt m X Y C = m := by simp [plt, a1]
    rw [ep]
    have a3 : decide (X < 64) = false := by simpa using a1
    go_enter Tryz.func90, Tryz.ntmps90
    go_wp2
    go_end0
    exact ⟨rfl, RD.same hm (Below.refl _ _)⟩
/-- The tones are cut off. -/
theorem MemR.clear {W : World} {F : Nat → Prop} {b : Nat} {bs : List (Int × List UInt8)} {m : MS} {u : Value} {gr' gc : Nat} {gs : List (Nat × Nat)} {tv : Value} (h : MemR W F b bs m u gr' gc gs tv) : MemR (W.setCell ⟨b, 9, none⟩ (.slice none 0 0)) F b bs { m with tones := [] } u gr' gc gs (.slice none 0 0) := by
  have k3 : ∀ k, k ≠ b → (W.setCell ⟨b, 9, none⟩ (.slice none 0 0)).heap[k]? = W.heap[k]? := fun k h1 => setCell_other _ _ _ _ _ h1
  refine ⟨by rw [setCell_heap W b 9 _ 54 _ h.blk]; rfl, ⟨h.banks.len, own_kept h.banks.row fun g e hg2 => k3 g (h.nu g e), fun j t g a c => ?_, h.banks.nd⟩, ?_, ?_, h.rl, h.sl, World.ownsRow_nil _ _ _ _, h.nr, h.nc, h.rc, h.fb, h.fu, h.fg, h.fr, h.fc, ?_⟩
  · obtain ⟨x1, x2, x3, x4⟩ := h.banks.dat j t g a c
    exact ⟨(k3 _ (h.n5 _ _ x1).1).trans x1, x2, x3, x4⟩
  · exact (k3 _ (h.n5 _ _ h.ram).1).trans h.ram
  · exact (k3 _ (h.n5 _ _ h.scr).1).trans h.scr
  · intro g e; simp [Value.ownBlock] at e
theorem rbegin_any (b : Nat) (x : UInt8) (w : World) {F : Nat → Prop} {m : MS} (hm : IsR w F b m) :
    Calls Tryz.prog 15 #[.pointer (some ⟨b, 0, none⟩), .int .u8 (bt x)] w fun e w' => e = .returned (.tuple #[]) ∧ RD w w' F b (bg m (bt x)) := by
  obtain ⟨hw, u, gr', gc, gs, tv, hm⟩ := hm
  have hb := bt_bound x
  have hf := hm.fb
  have k1 := hm.reg 4 (.int .u8 (bt x)) { m with pad := bt x } (fun _ _ => rfl) rfl rfl rfl
  have c1 := cell_of w b 4 _ 54 _ hm.blk rfl
  have z1 := frozen_of w b 4 _ 54 hm.blk
  have t0 := Tc.refl F w
  have t1 := t0.setCell b 4 hf (.int .u8 (bt x))
  generalize hw1 : w.setCell ⟨b, 4, none⟩ (.int .u8 (bt x)) = w1 at k1 t1
  have c2 := cell_of w1 b 7 _ 54 _ k1.blk rfl
  have z2 := frozen_of w1 b 7 _ 54 k1.blk
  have e1 := u16_wrap (m.time + 1)
  have k2 := k1.reg 7 (.int .u16 ((m.time + 1) % 65536)) { m with pad := bt x, time := (m.time + 1) % 65536 } (fun _ _ => rfl) rfl rfl rfl
  have t2 := t1.setCell b 7 hf (.int .u16 ((m.time + 1) % 65536))
  generalize hw2 : w1.setCell ⟨b, 7, none⟩ (.int .u16 ((m.time + 1) % 65536)) = w2 at k2 t2
  have c3 := cell_of w2 b 9 _ 54 _ k2.blk rfl
  have z3 := frozen_of w2 b 9 _ 54 k2.blk
  have k3 := k2.clear
  have t3 := t2.setCell b 9 hf (.slice none 0 0)
  generalize hw3 : w2.setCell ⟨b, 9, none⟩ (.slice none 0 0) = w3 at k3 t3
  have c4 := cell_of w3 b 8 _ 54 _ k3.blk rfl
  have z4 := frozen_of w3 b 8 _ 54 k3.blk
  have k4 := k3.reg 8 (.int .i64 0) (bg m (bt x)) (fun _ _ => rfl) rfl rfl rfl
  have t4 := t3.setCell b 8 hf (.int .i64 0)
  have hfin : RD w (w3.setCell ⟨b, 8, none⟩ (.int .i64 0)) F b (bg m (bt x)) := by
    refine ⟨⟨hw.regs rfl rfl rfl hw.ch0 hw.ch1 hb.1 hb.2 hw.pitch0 hw.pitch1 hw.vol0 hw.vol1 (by simp only [bg]; omega) (by simp only [bg]; omega), u, gr', gc, gs, .slice none 0 0, ?_⟩, t4⟩
    rw [inO_congr (m' := bg m (bt x)) (m := m) rfl]
    exact k4.mono fun _ _ f => .inl f
  have HF : Hid _ := hfin
  clear k1 k2 k3 k4 t0 t1 t2 t3 t4 hm hw hfin
  go_enter Tryz.func15, Tryz.ntmps15
  go_wp2
  go_end0
  exact ⟨rfl, HF.out⟩
/-- Cycle, written by the law itself. -/
theorem rcycle (b : Nat) (n : Int) (w : World) {F : Nat → Prop} {m : MS} (hm : IsR w F b m) :
    (∃ u, w.cell? ⟨b, 8, none⟩ = some u) ∧ w.frozen? ⟨b, 8, none⟩ = false ∧ RD w (w.setCell ⟨b, 8, none⟩ (.int .i64 n)) F b { m with cyc := n } := by
  obtain ⟨hw, u, gr', gc, gs, tv, h⟩ := hm
  refine ⟨⟨_, cell_of w b 8 _ 54 _ h.blk rfl⟩, frozen_of w b 8 _ 54 h.blk, ?_⟩
  exact RD.set (Below.refl _ _) b 8 _ h.fb ⟨hw.ram, hw.scr, hw.ch0, hw.ch1, hw.pad0, hw.pad1, hw.pitch0, hw.pitch1, hw.vol0, hw.vol1, hw.time0, hw.time1, hw.bk⟩ (by rw [inO_congr (m' := { m with cyc := n }) (m := m) rfl]; exact h.reg 8 _ _ (fun _ _ => rfl) rfl rfl rfl)
end Go.Proofs.YtgponcjjnjpfkabGreat.M
