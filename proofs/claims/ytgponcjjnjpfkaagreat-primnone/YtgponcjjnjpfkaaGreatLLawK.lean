import Derived.Test.YtgponcjjnjpfkaaGreatLBorn
import Derived.Test.YtgponcjjnjpfkaaGreatPNamed
import Derived.Laws.StructEq
import Derived.Deep.RegionHeld
/-! The program's side of a law's world; what Do leaves of it. -/
namespace Go.Proofs.YtgponcjjnjpfkaaGreat.L
open Go.RowKit
open Go.Proofs
open P
set_option linter.unusedVariables false
set_option linter.unusedSimpArgs false
set_option maxHeartbeats 2000000
set_option maxRecDepth 100000
structure WP (W : World) (B g bd br bm : Nat) (F : Nat → Prop) (D : List Int) (R : List (Int × Int)) (m : M.MS) : Prop where
  blk : ∃ x y z : Value, W.heap[g]? = some (.cells [.pointer (some ⟨bd, 0, none⟩), .pointer (some ⟨br, 0, none⟩), .pointer (some ⟨bm, 0, none⟩), x, y, z].toArray 37 (0, 0))
  p : PS W bd br bm F D R m
  ng : ¬ F g
  lo : B ≤ g ∧ B ≤ bd ∧ B ≤ br
  lf : ∀ k, F k → B ≤ k
def WPe (W : World) (B g bd br bm : Nat) (D : List Int) (R : List (Int × Int)) (m : M.MS) : Prop := ∃ F, WP W B g bd br bm F D R m
section
variable {W W' : World} {B g bd br bm : Nat} {F : Nat → Prop} {D D' : List Int} {R R' : List (Int × Int)} {m m' : M.MS}
theorem WP.gd (h : WP W B g bd br bm F D R m) : g ≠ bd ∧ g ≠ br := by
  obtain ⟨x, y, z, hb⟩ := h.blk
  constructor
  · rintro rfl
    have := h.p.d.1
    rw [hb] at this
    injection this with this
    injection this with _ this
    cases this
  · rintro rfl
    have := h.p.r.1
    rw [hb] at this
    injection this with this
    injection this with _ this
    cases this
theorem WPe.below (h : WPe W B g bd br bm D R m) (k : Below W.heap.size W W') : WPe W' B g bd br bm D R m := by
  obtain ⟨F, h⟩ := h
  obtain ⟨x, y, z, hb⟩ := h.blk
  exact ⟨F, ⟨x, y, z, (k.block _ (S.lt_of hb)).trans hb⟩, h.p.below k, h.ng, h.lo, h.lf⟩
theorem WPe.drew (h : WPe W B g bd br bm D R m) : WPe W.drew B g bd br bm D R m := by
  obtain ⟨F, h⟩ := h
  exact ⟨F, h.blk, ⟨h.p.d, h.p.r, h.p.m.kept fun i hi _ => rfl, h.p.dr, h.p.fd, h.p.fr⟩, h.ng, h.lo, h.lf⟩
theorem WP.step (h : WP W B g bd br bm F D R m) (hB : B ≤ W.heap.size) (k : PD W W' bd br bm F D' R' m') : WPe W' B g bd br bm D' R' m' ∧ Below B W W' := by
  obtain ⟨x, y, z, hb⟩ := h.blk
  have hg := h.gd
  refine ⟨⟨_, ⟨x, y, z, (k.t.block _ (S.lt_of hb) ?_).trans hb⟩, k.s, ?_, h.lo, ?_⟩, ?_⟩
  · rintro (e | e | e)
    · exact hg.1 e
    · exact hg.2 e
    · exact h.ng e
  · rintro (e | ⟨e, _⟩)
    · exact h.ng e
    · have := S.lt_of hb; omega
  · rintro i (e | ⟨e, _⟩)
    · exact h.lf i e
    · omega
  · refine ⟨k.t.os, k.t.tape, k.t.output, k.t.size, fun i hi => k.t.block i (by omega) ?_⟩
    rintro (e | e | e)
    · have := h.lo.2.1; omega
    · have := h.lo.2.2; omega
    · have := h.lf i e; omega
theorem WPe.cells (h : WPe W B g bd br bm D R m) : W.cell? ⟨g, 0, none⟩ = some (.pointer (some ⟨bd, 0, none⟩)) ∧ W.cell? ⟨g, 1, none⟩ = some (.pointer (some ⟨br, 0, none⟩)) ∧ W.cell? ⟨g, 2, none⟩ = some (.pointer (some ⟨bm, 0, none⟩)) := by
  obtain ⟨F, h⟩ := h
  obtain ⟨x, y, z, hb⟩ := h.blk
  exact ⟨S.cell_of W g 0 _ 37 _ hb rfl, S.cell_of W g 1 _ 37 _ hb rfl, S.cell_of W g 2 _ 37 _ hb rfl⟩
theorem WPe.d (h : WPe W B g bd br bm D R m) : S.HasD W bd D := by obtain ⟨F, h⟩ := h; exact h.p.d
theorem WPe.r (h : WPe W B g bd br bm D R m) : S.HasR W br R := by obtain ⟨F, h⟩ := h; exact h.p.r
theorem WPe.mem (h : WPe W B g bd br bm D R m) : ∃ F, M.HasM W F bm m := by obtain ⟨F, h⟩ := h; exact ⟨F, h.p.m⟩
theorem WW.e {bx bq bz : Nat} {G : Nat → Prop} {ev qv : Value} (h : WW W B g bd br bm bx bq bz F G ev qv D R m) : WPe W B g bd br bm D R m := ⟨F, ⟨_, _, _, h.blk⟩, h.p, h.ng.1, h.lo, h.lf⟩
end
def okD (D : List Int) : Bool := D.all fun x => decide (0 ≤ x) && decide (x < 65536)
theorem allC {D : List Int} (h : okD D = true) : ∀ x ∈ D, C.C x := by
  intro x hx
  have := List.all_eq_true.1 h x hx
  simp only [Bool.and_eq_true, decide_eq_true_eq] at this
  exact this
def xD (op : Int) (D : List Int) (R : List (Int × Int)) (m : M.MS) : List Int := if fl op D R = 0 then nD op D R m else D
def xR (op : Int) (D : List Int) (R : List (Int × Int)) : List (Int × Int) := if fl op D R = 0 then nR op D R else R
def xM (op : Int) (D : List Int) (R : List (Int × Int)) (m : M.MS) : M.MS := if fl op D R = 0 then nM op D m else m
theorem do_w (op : Int) (hp : plain op = true) (B g bd br bm : Nat) (D : List Int) (R : List (Int × Int)) (m : M.MS) (hD : ∀ x ∈ D, C.C x) (ht : m.tones.length ≤ 999000) (W : World) (h : WPe W B g bd br bm D R m) (hB : B ≤ W.heap.size) :
    Calls Tryz.prog 12 #[.int .i64 op, .pointer (some ⟨bd, 0, none⟩), .pointer (some ⟨br, 0, none⟩), .pointer (some ⟨bm, 0, none⟩)] W fun e W' => e = .returned (.int .i64 (fl op D R)) ∧ WPe W' B g bd br bm (xD op D R m) (xR op D R) (xM op D R m) ∧ Below B W W' := by
  obtain ⟨F, h⟩ := h
  refine (do_any op hp bd br bm F D R m hD ht W h.p).mono fun e W' ⟨h1, h2, h3⟩ => ⟨h1, ?_⟩
  by_cases c : fl op D R = 0
  · rw [xD, xR, xM, if_pos c, if_pos c, if_pos c]
    exact h.step hB (h3 c)
  · rw [xD, xR, xM, if_neg c, if_neg c, if_neg c]
    have := h2 c
    exact ⟨WPe.below ⟨F, h⟩ this, this.mono hB⟩
theorem same_row (a0 : Int) (a1 : ByteArray) (a2 a3 a4 : Int) (a5 : Bool) (w : World) : Calls Tryz.prog 25 #[rowV a0 a1 a2 a3 a4 a5, rowV a0 a1 a2 a3 a4 a5] w fun e w' => e = .returned (.bool true) ∧ Below w.heap.size w w' := by
  unfold rowV
  go_enter Tryz.func25, Tryz.ntmps25
  go_wp2
  go_ret
  exact ⟨rfl, ((Below.refl _ w).alloc (Nat.le_refl _) _).alloc (by simp) _⟩
theorem nm_2dup : ∀ x ∈ allN, (nm x == (⟨#[50, 100, 117, 112]⟩ : ByteArray)) = true → x = 19 := by decide +kernel
theorem nm_19 : 19 ∈ allN ∧ (nm 19 == (⟨#[50, 100, 117, 112]⟩ : ByteArray)) = true := by decide +kernel
theorem tl_eq {a b : ByteArray} : a.toList = b.toList ↔ (a == b) = true := by
  rw [beq_toListBytes]; simp
theorem tl_nil {a : ByteArray} (h : (a == ⟨#[]⟩) = false) : a.toList.isEmpty = false := by
  rw [beq_toListBytes] at h
  cases e : a.toList with
  | nil => rw [e] at h; revert h; rw [show (⟨#[]⟩ : ByteArray).toList = [] by unfold ByteArray.toList ByteArray.toList.loop; rfl]; decide
  | cons x l => rfl
theorem ne_2dup : (⟨#[50, 100, 117, 112]⟩ : ByteArray).toList.isEmpty = false := tl_nil (by decide +kernel)
theorem named_2dup (w : World) : Calls Tryz.prog 29 #[.string ⟨#[50, 100, 117, 112]⟩] w fun e w' => e = .returned (.tuple #[rowV 19 ⟨#[50, 100, 117, 112]⟩ 2 4 2 false, .bool true]) ∧ Below w.heap.size w w' := by
  refine (named_yes ⟨#[50, 100, 117, 112]⟩ ne_2dup w).mono fun e w' ⟨h, hb⟩ => ⟨?_, hb⟩
  rcases h with ⟨x, h1, h2, h3⟩ | ⟨h1, _⟩
  · have := nm_2dup x h1 (tl_eq.1 h2)
    subst this
    exact h3
  · exact absurd (tl_eq.2 nm_19.2) (h1 19 nm_19.1)
end Go.Proofs.YtgponcjjnjpfkaaGreat.L
/-! fixed. -/
namespace Go.Proofs.YtgponcjjnjpfkaaGreat.L
open Go.RowKit
open Go.Proofs
open P
set_option linter.unusedVariables false
set_option linter.unusedSimpArgs false
set_option maxHeartbeats 4000000
set_option maxRecDepth 100000
theorem bb {a b c : World} (h : Below a.heap.size a b) (k : Below b.heap.size b c) : Below a.heap.size a c := h.trans ⟨k.os, k.tape, k.output, k.size, fun i hi => k.block i (Nat.lt_of_lt_of_le hi h.size)⟩
/-- A row in a box. -/
def RX (W : World) (b : Nat) (op : Int) (name : ByteArray) (i o c : Int) (f : Bool) : Prop := W.heap[b]? = some (.cells [.int .i64 op, .string name, .int .i64 i, .int .i64 o, .int .i64 c, .bool f].toArray 59 (0, 0))
theorem RX.below {W W' : World} {B b : Nat} {op : Int} {name : ByteArray} {i o c : Int} {f : Bool} (h : RX W b op name i o c f) (k : Below B W W') (hb : b < B) : RX W' b op name i o c f := (k.block b hb).trans h
theorem of24 (w : World) : Calls Tryz.prog 26 #[.int .i64 24] w fun e w' => e = .returned (.tuple #[.agg #[.int .i64 24, .string ⟨#[47]⟩, .int .i64 2, .int .i64 1, .int .i64 4, .bool false], .int .i64 0]) ∧ Below w.heap.size w w' := of_yes 24 ⟨#[47]⟩ 2 1 4 false 0 0 0 _ (by decide) (by decide) ent_24 w
theorem of64 (w : World) : Calls Tryz.prog 26 #[.int .i64 64] w fun e w' => e = .returned (.tuple #[.agg #[.int .i64 0, .string ⟨#[]⟩, .int .i64 0, .int .i64 0, .int .i64 0, .bool false], .int .i64 60]) ∧ Below w.heap.size w w' := of_no 64 (by decide) w
theorem n2dup (w : World) : Calls Tryz.prog 29 #[.string ⟨#[50, 100, 117, 112]⟩] w fun e w' => e = .returned (.tuple #[.agg #[.int .i64 19, .string ⟨#[50, 100, 117, 112]⟩, .int .i64 2, .int .i64 4, .int .i64 2, .bool false], .bool true]) ∧ Below w.heap.size w w' := named_2dup w
theorem fixed_any (w : World) : Calls Tryz.prog 9 #[] w fun e w' => e = .returned (.bool true) ∧ Below w.heap.size w w' := by
  go_enter Tryz.func9, Tryz.ntmps9
  go_wp2_with fail
  refine (of24 w).mono ?_
  rintro e w1 ⟨rfl, h1⟩
  go_wp2_with fail
  refine (of64 _).mono ?_
  rintro e w2 ⟨rfl, h2⟩
  obtain ⟨bp, hbp⟩ : ∃ bp, w1.heap.size = bp := ⟨_, rfl⟩
  have a1 := bel_alloc w1 (.cells #[.int .i64 24, .string ⟨#[47]⟩, .int .i64 2, .int .i64 1, .int .i64 4, .bool false] 59)
  have r1 : RX w2 bp 24 ⟨#[47]⟩ 2 1 4 false := by rw [← hbp]; exact (h2.block _ (by simp)).trans (heap_alloc_new w1 _)
  have H2 := S.hid (bb h1 (bb a1 h2))
  rw [hbp]
  clear h1 a1 h2 hbp
  go_wp2_with fail
  refine (n2dup _).mono ?_
  rintro e w3 ⟨rfl, h3⟩
  have a2 := bel_alloc w2 (.cells #[.int .i64 0, .string ⟨#[]⟩, .int .i64 0, .int .i64 0, .int .i64 0, .bool false] 59)
  have b3 := bb a2 h3
  have r1 := r1.below b3 (S.lt_of r1)
  have H3 := S.hid (bb H2.out b3)
  clear a2 h3 b3 H2
  obtain ⟨bq, hbq⟩ : ∃ bq, w3.heap.size = bq := ⟨_, rfl⟩
  obtain ⟨w4, hw4⟩ : ∃ w4, (w3.alloc (.cells #[.int .i64 19, .string ⟨#[50, 100, 117, 112]⟩, .int .i64 2, .int .i64 4, .int .i64 2, .bool false] 59)).alloc (.cells #[.int .u16 1, .int .u16 2, .int .u16 3] 26) = w4 := ⟨_, rfl⟩
  have b4 : Below w3.heap.size w3 w4 := by rw [← hw4]; exact (bel_alloc w3 _).alloc (bel_alloc w3 _).size _
  have z4 : w4.heap.size = bq + 2 := by rw [← hw4, ← hbq]; simp
  have r2 : RX w4 bq 19 ⟨#[50, 100, 117, 112]⟩ 2 4 2 false := by rw [← hw4, ← hbq]; exact (Below.heap_alloc _ _ _ (by simp)).trans (heap_alloc_new w3 _)
  have s4 : S.Sl S.eU 1 w4 (some ⟨bq + 1, 0, none⟩) [1, 2, 3] := by rw [← hw4, ← hbq]; exact sl_block S.hU _ _ 26 _ (heap_alloc2_new w3 _ _)
  have hbo : Calls Tryz.prog 11 #[.slice (some ⟨bq + 1, 0, none⟩) 3 3, .slice none 0 0] w4 fun e w' => BornR w4 w' e [1, 2, 3] [] := born_any (some ⟨bq + 1, 0, none⟩) none 3 0 [1, 2, 3] [] (by decide) (by decide) (by intro e; cases e) (fun _ => rfl) (by decide) (by decide) w4 s4 (fun i a h => by simp at h)
  have r1 := r1.below b4 (S.lt_of r1)
  have RQ1 := S.hid (S.lt_of r1)
  have H4 := S.hid (bb H3.out b4)
  clear H3 b4 s4
  go_wp2_with fail
  refine hbo.mono ?_
  rintro e w5 ⟨g, bd, br, bm, bx, bq', bz, F, G, ev, qv, rfl, hW, b5⟩
  have r1 := r1.below b5 (S.lt_of r1)
  have r2 := r2.below b5 (S.lt_of r2)
  have hE := hW.e
  have H5 := S.hid (bb H4.out b5)
  have RP1 : bp < w4.heap.size := RQ1.out
  have RP2 : bq < w4.heap.size := by omega
  have HS4 := S.hid H4.out.size
  have l45 := b5.size
  clear hW b5 hbo H4 hw4
  have hdo := do_w 16 rfl w4.heap.size g bd br bm [1, 2, 3] [] mB (allC rfl) (by decide) w5.drew hE.drew l45
  rw [show fl 16 [1, 2, 3] [] = 0 from rfl, show xD 16 [1, 2, 3] [] mB = [2, 3, 1] from rfl, show xR 16 [1, 2, 3] [] = [] from rfl, show xM 16 [1, 2, 3] [] mB = mB from rfl] at hdo
  have s0 := hE.drew.cells
  clear hE
  go_wp2_with fail
  go_region_held (fun w' => w'.cell? ⟨g, 0, none⟩ = some (.pointer (some ⟨bd, 0, none⟩)) ∧ w'.cell? ⟨g, 1, none⟩ = some (.pointer (some ⟨br, 0, none⟩)) ∧ w'.cell? ⟨g, 2, none⟩ = some (.pointer (some ⟨bm, 0, none⟩)))
    (first | (with_reducible exact s0) | (with_reducible exact s1))
    (first | (go_at_call 12; refine hdo.mono ?_; rintro e w6 ⟨rfl, hE6, b6⟩; have s1 := hE6.cells))
  have b56 : Below w4.heap.size w5 w6 := ⟨b6.os, b6.tape, b6.output, b6.size, b6.block⟩
  have lp := S.lt_of r1
  have hdc := S.dcells bd [2, 3, 1] w6 hE6.d
  have HE6 := S.hid hE6
  have r1 := r1.below b56 RP1
  have r2 := r2.below b56 RP2
  have H6 : Below w.heap.size w w6 := H5.out.trans (b56.mono HS4.out)
  have H6 := S.hid H6
  have c0 := hE6.cells.1
  clear hdo s0 s1 b6 b56 hE6 lp
  go_wp2_with fail
  refine hdc.mono ?_
  rintro e w7 ⟨u, rfl, hu, b7⟩
  have r1 := r1.below b7 (S.lt_of r1)
  have r2 := r2.below b7 (S.lt_of r2)
  have H7 := S.hid (bb H6.out b7)
  obtain ⟨p7, c7, rfl, -, sl7⟩ := hu.ls.ex
  have e0 := S.cell_of w7 bp 0 _ 59 _ r1 rfl
  have e1 := S.cell_of w7 bp 1 _ 59 _ r1 rfl
  have e2 := S.cell_of w7 bp 2 _ 59 _ r1 rfl
  have e3 := S.cell_of w7 bp 3 _ 59 _ r1 rfl
  have e4 := S.cell_of w7 bp 4 _ 59 _ r1 rfl
  have e5 := S.cell_of w7 bp 5 _ 59 _ r1 rfl
  have hs1 := same_row 24 ⟨#[47]⟩ 2 1 4 false w7
  unfold rowV at hs1
  clear hdc hu b7 c0 H6
  go_wp2_with fail
  refine hs1.mono ?_
  rintro e w8 ⟨rfl, b8⟩
  have r2 := r2.below b8 (S.lt_of r2)
  have sl8 := sl7.below b8
  have H8 := S.hid (bb H7.out b8)
  have f0 := S.cell_of w8 bq 0 _ 59 _ r2 rfl
  have f1 := S.cell_of w8 bq 1 _ 59 _ r2 rfl
  have f2 := S.cell_of w8 bq 2 _ 59 _ r2 rfl
  have f3 := S.cell_of w8 bq 3 _ 59 _ r2 rfl
  have f4 := S.cell_of w8 bq 4 _ 59 _ r2 rfl
  have f5 := S.cell_of w8 bq 5 _ 59 _ r2 rfl
  have hs2 := same_row 19 ⟨#[50, 100, 117, 112]⟩ 2 4 2 false w8
  unfold rowV at hs2
  clear hs1 b8 H7 sl7
  go_wp2_with fail
  refine hs2.mono ?_
  rintro e w9 ⟨rfl, b9⟩
  have sl9 := sl8.below b9
  have H9 := S.hid (bb H8.out b9)
  have a9 := bel_alloc w9 (.cells #[.int .u16 2, .int .u16 3, .int .u16 1] 26)
  have hsm := S.sameU p7 (some ⟨w9.heap.size, 0, none⟩) c7 3 [2, 3, 1] (by decide) (w9.alloc (.cells #[.int .u16 2, .int .u16 3, .int .u16 1] 26)) (sl9.below a9) (sl_block S.hU _ _ 26 _ (heap_alloc_new w9 _))
  simp only [List.length_cons, List.length_nil, Nat.reduceAdd] at hsm
  have H9a := S.hid (bb H9.out a9)
  clear hs2 b9 H8 sl8 sl9 a9
  go_wp2_with fail
  refine hsm.mono ?_
  rintro e w10 ⟨rfl, q, rfl⟩
  go_wp2_with fail
  refine (plain_yes 16 16 _ _ _ _ _ _ _ _ _ ent_16 _).mono ?_
  rintro e w11 ⟨rfl, b11⟩
  go_wp2_with fail
  refine (plain_no 3 3 _ _ _ _ _ _ _ _ ent_3 _).mono ?_
  rintro e w12 ⟨rfl, b12⟩
  have b11' : Below (w9.alloc (.cells #[.int .u16 2, .int .u16 3, .int .u16 1] 26)).heap.size (w9.alloc (.cells #[.int .u16 2, .int .u16 3, .int .u16 1] 26)) w11 := ⟨b11.os, b11.tape, b11.output, b11.size, b11.block⟩
  have hlast := bb H9a.out (bb b11' b12)
  clear hsm b11 b12 b11'
  go_wp2
  go_ret
  exact ⟨rfl, hlast⟩
end Go.Proofs.YtgponcjjnjpfkaaGreat.L
