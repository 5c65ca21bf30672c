import Derived.Test.YthphmeckcmhijaaDoorTakes
import Derived.Test.YthphmeckcmhijaaDoorScripts
/-! PackReads' walk: its parts. -/
namespace Go.Proofs.YthphmeckcmhijaaDoor
open Go.RowKit
set_option linter.unusedVariables false

set_option maxHeartbeats 1000000 in
set_option maxRecDepth 100000 in
theorem take_nil (n : Int) (w : World) : Calls Tryd.prog 40 #[.pointer none, .int .i64 n] w fun r w' => r = .returned (.slice none 0 0) ∧ w' = w := by
  go_enter Tryd.func40, Tryd.ntmps40
  go_wp2_with fail
  refine (err_nil w).mono ?_
  rintro e2 w' ⟨rfl, rfl⟩
  go_wp2
  go_ret
  exact ⟨rfl, rfl⟩
set_option maxHeartbeats 1000000 in
set_option maxRecDepth 100000 in
theorem rbyte_nil (w : World) : Calls Tryd.prog 25 #[.pointer none] w fun r w' => r = .returned (.int .u8 0) ∧ w' = w := by
  go_enter Tryd.func25, Tryd.ntmps25
  go_wp2_with fail
  refine (take_nil 1 w).mono ?_
  rintro e2 w' ⟨rfl, rfl⟩
  go_wp2_with fail
  refine (lowest_any _ [] (by decide) w' (.inl ⟨rfl, rfl⟩)).mono ?_
  rintro e2 w2 ⟨rfl, rfl⟩
  go_wp2
  go_ret
  exact ⟨rfl, rfl⟩
set_option maxHeartbeats 1000000 in
set_option maxRecDepth 100000 in
theorem rbytes_nil (w : World) : Calls Tryd.prog 26 #[.pointer none, .int .i64 0] w fun r w' => ∃ p c, r = .returned (.slice p 0 c) ∧ Below w.heap.size w w' := by
  go_enter Tryd.func26, Tryd.ntmps26
  go_wp2_with fail
  refine (take_nil 0 w).mono ?_
  rintro e2 w' ⟨rfl, rfl⟩
  go_wp2_with fail
  refine (clone_any _ [] (by decide) w' (.inl ⟨rfl, rfl⟩)).mono ?_
  rintro e2 w2 ⟨u, rfl, h1, h2⟩
  obtain ⟨p, c, rfl⟩ := own_val h1
  go_wp2
  go_ret
  exact ⟨_, _, rfl, h2⟩
set_option maxHeartbeats 1000000 in
set_option maxRecDepth 100000 in
theorem rnumber_nil (w : World) : Calls Tryd.prog 27 #[.pointer none] w fun r w' => r = .returned (.int .i64 0) ∧ w' = w := by
  go_enter Tryd.func27, Tryd.ntmps27
  go_wp2_with fail
  refine (err_nil w).mono ?_
  rintro e2 w' ⟨rfl, rfl⟩
  go_wp2
  go_ret
  exact ⟨rfl, rfl⟩
/-- A reader whose bytes' block has room below. -/
theorem Rd.base {W : World} {br gr : Nat} {v : Value} {l : List UInt8} {e : Nat} (h : Rd W br gr v l e) (hg : gr < W.heap.size ∨ v.ownBlock = none) (hne : gr ≠ br) (B : Nat) (hB : 0 < B) (hbr : B ≤ br) (hgr : B ≤ gr) (hs : B ≤ W.heap.size) : ∃ g, Rd W br g v l e ∧ g < W.heap.size ∧ g ≠ br ∧ (g = 0 ∨ g = gr) := by
  rcases hg with h1 | h1
  · exact ⟨gr, h, h1, hne, .inr rfl⟩
  · exact ⟨0, ⟨h.blk, h.sl, .inl h1, h.len⟩, by omega, by omega, .inl rfl⟩
/-- The state of PackReads between two calls. -/
structure RS (w W : World) (br gr bm gm gi cap : Nat) (v vm vb : Value) (lb l : List UInt8) (e n : Nat) : Prop where
  below : Below w.heap.size w W
  rd : Rd W br gr v l e
  rm : Rm W bm gm vm l e
  row : Row W w.heap.size (.slice (some ⟨gi, 0, none⟩) (n + 3) cap) (lb ++ marks)
  len : lb.length = n
  sb : Sl W vb lb
  ob : lb = [] ∨ ∀ g, vb.ownBlock = some g → g ≠ br ∧ g ≠ bm
  n1 : br ≠ bm
  n2 : gr ≠ bm
  n3 : gm ≠ br
  i1 : gi ≠ br
  i2 : gi ≠ bm
  i3 : gi ≠ gr
  i4 : gi ≠ gm
  lg : gr < W.heap.size
  lm : gm < W.heap.size
  lbr : w.heap.size ≤ br
  lbm : w.heap.size ≤ bm
  lgi : w.heap.size ≤ gi
  le : e < 1000
  ll : l.length ≤ n
theorem Sl.empty {W W' : World} {v : Value} (h : Sl W v []) : Sl W' v [] := by
  rcases h with h | ⟨x, c, e, hc, _⟩
  · exact .inl h
  · exact .inr ⟨x, c, e, hc, fun j b hj => by simp at hj⟩
theorem RS.size {w W : World} {br gr bm gm gi cap : Nat} {v vm vb : Value} {lb l : List UInt8} {e n : Nat} (h : RS w W br gr bm gm gi cap v vm vb lb l e n) : w.heap.size ≤ W.heap.size := h.below.size
theorem RS.drewN {w W : World} {br gr bm gm gi cap : Nat} {v vm vb : Value} {lb l : List UInt8} {e n : Nat} (h : RS w W br gr bm gm gi cap v vm vb lb l e n) (q : Nat) : RS w (W.drewN q) br gr bm gm gi cap v vm vb lb l e n :=
  ⟨below_drewN h.below q, ⟨h.rd.blk, h.rd.sl, h.rd.own, h.rd.len⟩, ⟨h.rm.blk, h.rm.sl, h.rm.own, h.rm.len⟩, h.row, h.len, h.sb, h.ob, h.n1, h.n2, h.n3, h.i1, h.i2, h.i3, h.i4, h.lg, h.lm, h.lbr, h.lbm, h.lgi, h.le, h.ll⟩
theorem RS.room {w W : World} {br gr bm gm gi cap : Nat} {v vm vb : Value} {lb l : List UInt8} {e n : Nat} (h : RS w W br gr bm gm gi cap v vm vb lb l e n) : Roomed W w.heap.size (.slice (some ⟨gi, 0, none⟩) n cap) lb := ⟨gi, cap, by rw [h.len], by rw [h.len]; exact h.row⟩
theorem RS.step {w W W' : World} {br gr bm gm gi cap : Nat} {v vm vb v' vm' : Value} {lb l l' : List UInt8} {e e' n : Nat} (h : RS w W br gr bm gm gi cap v vm vb lb l e n) (t : TStep br bm W W') (hd : Rd W' br gr v' l' e') (hm : Rm W' bm gm vm' l' e') (he : e' < 1000) (hl : l'.length ≤ n) : RS w W' br gr bm gm gi cap v' vm' vb lb l' e' n := by
  have h1 := h.lbr
  have h2 := h.lbm
  have h3 := h.size
  refine ⟨h.below.trans ⟨t.os, t.tape, t.output, t.size, fun k hk => t.block k (by omega) (by omega) (by omega)⟩, hd, hm, h.row.kept fun g e hlt => ?_, h.len, ?_, h.ob, h.n1, h.n2, h.n3, h.i1, h.i2, h.i3, h.i4, Nat.lt_of_lt_of_le h.lg t.size, Nat.lt_of_lt_of_le h.lm t.size, h.lbr, h.lbm, h.lgi, he, hl⟩
  · simp [Value.ownBlock] at e
    subst e
    exact t.block gi hlt h.i1 h.i2
  · rcases h.ob with e0 | h0
    · have h1 := h.sb
      rw [e0] at h1 ⊢
      exact h1.empty
    · exact h.sb.kept fun a u hc ho => by
        have hlt := World.block_lt_of_cell? W a hc
        have hn := h0 a.block ho.symm
        rw [World.cell?_of_block (w := W) (t.block a.block hlt hn.1 hn.2)]; exact hc
theorem stp_len (k n : Int) (l : List UInt8) (e : Nat) : (stp k n l e).1.length ≤ l.length := by
  have ht : ∀ m, (tk l e m).2.1.length ≤ l.length := fun m => by
    unfold tk; split
    · simp
    · split
      · simp
      · simp
  have hn : (nr l e).2.1.length ≤ l.length := by unfold nr; split <;> simp
  unfold stp
  repeat' split
  all_goals first | exact ht _ | exact hn | exact Nat.le_refl _
theorem stp_lt (k n : Int) (l : List UInt8) (e : Nat) (he : e < 1000) : (stp k n l e).2 < 1000 := by
  unfold stp
  repeat' split
  all_goals first | exact tk_lt l e _ he | exact nr_lt l e he | exact he
/-- The caller's bytes are the caller's: turned, and copied anew. -/
theorem RS.turned {w W W' W2 : World} {br gr bm gm gi cap : Nat} {v vm vb vb' : Value} {lb L l : List UInt8} {e n : Nat} (h : RS w W br gr bm gm gi cap v vm vb lb l e n) (o : Only gi W W')
    (hr : Row W' w.heap.size (.slice (some ⟨gi, 0, none⟩) (n + 3) cap) L) (hL : L.length = n + 3) (hm : L.drop n = marks) (hb : Below W'.heap.size W' W2) (hv : Row W2 W'.heap.size vb' (L.take n)) : RS w W2 br gr bm gm gi cap v vm vb' (L.take n) l e n := by
  have hs := o.size
  have hlg := h.lg
  have hlm := h.lm
  have hgi := h.lgi
  have hsz := h.size
  have e1 : L.take n ++ marks = L := by rw [← hm, List.take_append_drop]
  have hd' : Rd W' br gr v l e := ⟨(o.block br (Ne.symm h.i1)).trans h.rd.blk, h.rd.sl.kept fun a u hc ho => by
    have hg : a.block ≠ gi := by
      rcases h.rd.own with e | e
      · rw [e] at ho; cases ho
      · rw [e] at ho; simp at ho; rw [ho]; exact Ne.symm h.i3
    rw [World.cell?_of_block (w := W) (o.block a.block hg)]; exact hc, h.rd.own, h.rd.len⟩
  have hm' : Rm W' bm gm vm l e := ⟨(o.block bm (Ne.symm h.i2)).trans h.rm.blk, h.rm.sl.kept fun a u hc ho => by
    have hg : a.block ≠ gi := by
      rcases h.rm.own with e | e
      · rw [e] at ho; cases ho
      · rw [e] at ho; simp at ho; rw [ho]; exact Ne.symm h.i4
    rw [World.cell?_of_block (w := W) (o.block a.block hg)]; exact hc, h.rm.own, h.rm.len⟩
  have hbl : Below w.heap.size w W' := h.below.trans ⟨o.os, o.tape, o.output, Nat.le_of_eq o.size.symm, fun k hk => o.block k (by omega)⟩
  have hbrl := h.rd.lt
  have hbml := h.rm.lt
  refine ⟨hbl.trans (hb.mono (by omega)), hd'.below hb, hm'.below hb, by rw [e1]; exact hr.below hb, by simp; omega, hv.sl, .inr fun g e => ?_, h.n1, h.n2, h.n3, h.i1, h.i2, h.i3, h.i4, by have := hb.size; omega, by have := hb.size; omega, h.lbr, h.lbm, h.lgi, h.le, h.ll⟩
  have := (hv.lt g e).1
  omega
end Go.Proofs.YthphmeckcmhijaaDoor
