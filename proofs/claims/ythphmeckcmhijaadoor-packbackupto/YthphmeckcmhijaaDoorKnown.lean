import Derived.Test.YthphmeckcmhijaaDoorNum
import Derived.Lib.SlBytesConst
/-! Number taken up by a reader; known. -/
namespace Go.Proofs.YthphmeckcmhijaaDoor
open Go.RowKit
set_option linter.unusedVariables false

def nr (l : List UInt8) (e : Nat) : Nat × List UInt8 × Nat := if e ≠ 0 then (0, l, e) else ((nm l).1, l.drop (nm l).2.1, (nm l).2.2)
theorem nr_err {l : List UInt8} {e : Nat} (h : e ≠ 0) : nr l e = (0, l, e) := by simp [nr, h]
theorem nr_ok (l : List UInt8) : nr l 0 = ((nm l).1, l.drop (nm l).2.1, (nm l).2.2) := by simp [nr]

set_option maxHeartbeats 1000000 in
set_option maxRecDepth 100000 in
theorem rnumber_any (br gr : Nat) (v : Value) (l : List UInt8) (e : Nat) (he : e < 1000) (w : World) (h : Rd w br gr v l e) :
    Calls Tryd.prog 27 #[.pointer (some ⟨br, 0, none⟩)] w fun r w' => r = .returned (.int .i64 ((nr l e).1 : Int)) ∧ ∃ v', Rd w' br gr v' (nr l e).2.1 (nr l e).2.2 ∧ RStep br w w' := by
  have herr := err_any br gr v l e w h
  by_cases he0 : e = 0
  · subst he0
    rw [nr_ok]
    have hnum := number_any v l h.len w h.sl
    have hk := nm_size l
    generalize nm l = N at *
    obtain ⟨n, k, e'⟩ := N
    simp only at hk hnum ⊢
    have h1 := h.setErr e'
    have f1 := h.fz 1
    have c1 := h.c1
    have c0 := h.c0
    have c0' := h1.c0
    have f0' := h1.fz 0
    have hS := h1.sl
    have ho := h.own
    obtain ⟨p, c, rfl, _⟩ := h.sl.ex
    have s2 := fun W => slice_from W p l.length c k (k : Int) rfl hk
    have hD := h1.setLeft (hS.drop k hk) (by rw [own_slice p l.length c]; exact ho) (by have := h.len; simp; omega)
    have HD : Hid _ := hD
    clear hD hS
    generalize hP : (if c = k then p else p.map (·.add k)) = P' at *
    go_enter Tryd.func27, Tryd.ntmps27
    go_wp2_with fail
    refine herr.mono ?_
    rintro e2 w' ⟨rfl, rfl⟩
    go_wp2_with fail
    refine hnum.mono ?_
    rintro e2 w2 ⟨rfl, rfl⟩
    go_wp2
    go_ret
    exact ⟨rfl, _, HD.out, (RStep.of_set _ _ _).trans (RStep.of_set _ _ _)⟩
  · rw [nr_err he0]
    have i1 : ((e : Int) != 0) = true := by simp; omega
    go_enter Tryd.func27, Tryd.ntmps27
    go_wp2_with fail
    refine herr.mono ?_
    rintro e2 w' ⟨rfl, rfl⟩
    go_wp2
    go_ret
    exact ⟨rfl, v, h, RStep.refl _ _⟩
theorem num_any (x : Int) (w : World) : Calls Tryd.prog 22 #[.int .i64 x] w fun r w' => r = .returned (.int .i64 x) ∧ w' = w := by
  go_enter Tryd.func22, Tryd.ntmps22
  go_wp2
  go_ret
  exact ⟨rfl, rfl⟩
theorem WStep.belowB {bw B : Nat} {W W' : World} {v v' : Value} (h : WStep bw W W' v v') (h1 : B ≤ bw) (h2 : ∀ g, v.ownBlock = some g → B ≤ g) (h3 : B ≤ W.heap.size) : Below B W W' :=
  ⟨h.os, h.tape, h.output, h.size, fun k hk => h.block k (by omega) (by omega) (fun e => by have := h2 k e.symm; omega)⟩
theorem RStep.belowB {br B : Nat} {W W' : World} (h : RStep br W W') (h1 : B ≤ br) (h3 : B ≤ W.heap.size) : Below B W W' :=
  ⟨h.os, h.tape, h.output, h.size, fun k hk => h.block k (by omega) (by omega)⟩
theorem Tab.below {B : Nat} {W W' : World} (h : Tab W) (hb : Below B W W') (hB : 0 < B) : Tab W' := fun i hi => by rw [hb.cell (p := ⟨0, i, none⟩) hB]; exact h i hi
theorem Tab.pos {W : World} (h : Tab W) : 0 < W.heap.size := World.block_lt_of_cell? W _ (h 0 (by decide))
theorem form300 : form 300 = [172, 2] := by
  rw [form_ge (by decide), form_lt (by decide)]; rfl
def digs : List UInt8 := [49, 50, 51, 52, 53, 54, 55, 56, 57]
theorem crc_digs : crc digs = 3421780262 := by kernel_rfl
theorem nm300 : nm [172, 2] = (300, 2, 0) := by kernel_rfl

theorem cell_of_any (w : World) (b j : Nat) (cs : Array Value) (t : TypeId) (fr : Nat × Nat) (h : w.heap[b]? = some (.cells cs t fr)) : w.cell? ⟨b, j, none⟩ = cs[j]? := by simp [World.cell?, h]
theorem heap_alloc_any (w : World) (o : Obj) : (w.alloc o).heap[w.heap.size]? = some o := heap_alloc_new w o

set_option maxHeartbeats 2000000 in
set_option maxRecDepth 100000 in
theorem known_any (w : World) (hT : Tab w) : Calls Tryd.prog 8 #[] w fun r w' => r = .returned (.bool true) ∧ Below w.heap.size w w' := by
  have hp := hT.pos
  have hb1 : Below w.heap.size w (w.alloc (.cells #[.slice none 0 0] 36)) := (Below.refl _ _).alloc (Nat.le_refl _) _
  have hw1 : Wr (w.alloc (.cells #[.slice none 0 0] 36)) w.heap.size w.heap.size (.slice none 0 0) [] := ⟨heap_alloc_new w _, row_nil _ _⟩
  generalize hB : w.heap.size = B at *
  generalize hW1 : w.alloc (.cells #[.slice none 0 0] 36) = W1 at *
  have hz1 := hb1.size
  rw [hB] at hz1
  have hn := wnumber_any B B (.slice none 0 0) 300 (by decide) [] (by decide) W1 hw1 hz1
  rw [show (((300 : Int) % 4294967296).toNat) = 300 by decide, form300] at hn
  go_enter Tryd.func8, Tryd.ntmps8
  go_wp2_with fail
  refine hn.mono ?_
  rintro e w2 ⟨rfl, v, hw2, hs2⟩
  have hb2 : Below B w w2 := hb1.trans (hs2.belowB (Nat.le_refl _) (fun g hg => by simp [Value.ownBlock] at hg) hz1)
  have hz2 := hb2.size
  rw [hB] at hz2
  clear hs2 hn hw1
  have ha := row_of_alloc w2 w2.heap.size (Nat.le_refl _) [172, 2] (by simp [maxLen])
  have hb3 : Below w2.heap.size w2 (w2.alloc (.cells (bv [172, 2]).toArray 5)) := (Below.refl _ _).alloc (Nat.le_refl _) _
  have hr := newreader_any _ [172, 2] (by decide) _ ha.sl
  have hw3 := hw2.below hb3
  have hb3' := hb2.trans (hb3.mono hz2)
  have hb3lt : w2.heap.size ≤ (w2.alloc (.cells (bv [172, 2]).toArray 5)).heap.size := hb3.size
  go_wp2_with fail
  refine hr.mono ?_
  rintro e w4 ⟨br, gr, v4, rfl, h41, h42, h43, h44, h45, _⟩
  have hz3 : B ≤ (w2.alloc (.cells (bv [172, 2]).toArray 5)).heap.size := Nat.le_trans hz2 hb3.size
  have hb4 := hb3'.trans (h45.mono hz3)
  have hw4 := hw3.below h45
  have hz4 : B ≤ w4.heap.size := Nat.le_trans hz3 h45.size
  clear hb3 hw3 hb3' h45 ha hr
  have hrn := rnumber_any br gr v4 [172, 2] 0 (by decide) w4 h44
  rw [nr_ok, nm300] at hrn
  go_wp2_with fail
  refine hrn.mono ?_
  rintro e w5 ⟨rfl, v5, h5, h6⟩
  have hbr : B ≤ br := Nat.le_trans hz3 h41
  have hb5 := hb4.trans (h6.belowB hbr hz4)
  have hz5 : B ≤ w5.heap.size := Nat.le_trans hz4 h6.size
  have hw5 : Wr w5 B B v [172, 2] := by
    have hne : B ≠ br := by have := hw2.lt; have h2 := hb3lt; omega
    refine ⟨(h6.block B hw4.lt hne).trans hw4.blk, hw4.row.kept fun g hg hlt => h6.block g hlt ?_⟩
    have := hw2.row.lt g hg
    omega
  have hT5 := hT.below hb5 hp
  have kc := Lib.run_convert_bytes_const (P := Tryd.prog) w5 22 5 #[.int .u8 49, .int .u8 50, .int .u8 51, .int .u8 52, .int .u8 53, .int .u8 54, .int .u8 55, .int .u8 56, .int .u8 57] 9 9 Tryd.underlying22 Tryd.underlying5
  generalize hM : w5.alloc (.cells #[.int .u8 49, .int .u8 50, .int .u8 51, .int .u8 52, .int .u8 53, .int .u8 54, .int .u8 55, .int .u8 56, .int .u8 57] 5 (9, 10)) = W6
  have hM' : w5.alloc (.cells #[.int .u8 49, .int .u8 50, .int .u8 51, .int .u8 52, .int .u8 53, .int .u8 54, .int .u8 55, .int .u8 56, .int .u8 57] 5 ((#[.int .u8 49, .int .u8 50, .int .u8 51, .int .u8 52, .int .u8 53, .int .u8 54, .int .u8 55, .int .u8 56, .int .u8 57] : Array Value).size, (#[.int .u8 49, .int .u8 50, .int .u8 51, .int .u8 52, .int .u8 53, .int .u8 54, .int .u8 55, .int .u8 56, .int .u8 57] : Array Value).size + 1)) = W6 := hM
  rw [hM'] at kc
  have hb6 : Below w5.heap.size w5 W6 := by rw [← hM]; exact (Below.refl _ _).alloc (Nat.le_refl _) _
  have ha6 : Sl W6 (.slice (some ⟨w5.heap.size, 0, none⟩) 9 9) digs := by
    refine .inr ⟨_, 9, rfl, by decide, fun j b hj => ?_⟩
    have hj2 := (bv_get digs j _).2 ⟨b, hj, rfl⟩
    rw [← hM, show (⟨w5.heap.size, 0, none⟩ : Addr).add j = ⟨w5.heap.size, j, none⟩ by unfold Addr.add; split <;> simp_all, cell_of_any _ _ j _ _ _ (heap_alloc_any w5 _), ← hj2]
    exact (show ((bv digs).toArray)[j]? = (bv digs)[j]? by simp)
  generalize hM2 : W6.alloc (.cells #[.slice (some ⟨w5.heap.size, 0, none⟩) 9 9] 22) = W7
  have hb7 : Below W6.heap.size W6 W7 := by rw [← hM2]; exact (Below.refl _ _).alloc (Nat.le_refl _) _
  have hc7 : W7.cell? ⟨W6.heap.size, 0, none⟩ = some (.slice (some ⟨w5.heap.size, 0, none⟩) 9 9) := by rw [← hM2]; exact cell_of_row _ _ 0 _ _ _ (heap_alloc_new W6 _)
  have hz6 := hb6.size
  have hz7 := hb7.size
  have hb57 : Below w5.heap.size w5 W7 := hb6.trans (hb7.mono hz6)
  have hT7 := hT5.below (hb57.mono hz5) hp
  have hpt : Parts W7 (some ⟨W6.heap.size, 0, none⟩) [digs] := by
    intro i l hi
    match i, hi with
    | 0, hi =>
      simp at hi; subst hi
      obtain ⟨p, c, e, hbs⟩ := (ha6.below hb7).ex
      simp only [Value.slice.injEq] at e
      obtain ⟨rfl, _, rfl⟩ := e
      exact ⟨_, _, _, rfl, by simp only [Addr.add, if_pos]; exact hc7, hbs, by decide⟩
    | n + 1, hi => simp at hi
  have hsum := sum_any (some ⟨W6.heap.size, 0, none⟩) 1 [digs] (by decide) W7 hpt hT7
  rw [show ([digs].flatten) = digs by rfl, crc_digs] at hsum
  have hw7 := hw5.below hb57
  have hd := wdone_any B B v [172, 2] (by decide) W7 hw7
  have hR7 := h5.below hb57
  have hb57' : Below B w W7 := hb5.trans (hb57.mono hz5)
  have hz7' : B ≤ W7.heap.size := by omega
  clear hpt hT7 hc7 ha6 hb57 hT5 hw5 hw4 hb4 hw2 hb2
  go_wp2_with fail
  refine hsum.mono ?_
  rintro e w8 ⟨rfl, rfl⟩
  go_wp2_with fail
  refine hd.mono ?_
  rintro e w9 ⟨u, rfl, h91, h92⟩
  have hcv := h91.sl.conv (by decide)
  have hR9 := hR7.below h92
  have he9 := err_any _ _ _ _ _ _ hR9
  have hne9 := num_any 0 w9
  go_wp2_with fail
  refine he9.mono ?_
  rintro e w10 ⟨rfl, rfl⟩
  go_wp2_with fail
  refine hne9.mono ?_
  rintro e w11 ⟨rfl, rfl⟩
  go_wp2
  go_ret
  exact ⟨rfl, hb57'.trans (h92.mono hz7')⟩
end Go.Proofs.YthphmeckcmhijaaDoor
