import Derived.Test.YtgponcjjnjpfkaaGreatLBornK
import Derived.Test.YtgponcjjnjpfkaaGreatMRImage
import Derived.Test.YtgponcjjnjpfkaaGreatMRSame
import Derived.Test.YtgponcjjnjpfkaaGreatMTones
import Derived.Deep.RegionHeld
import Derived.Deep.RegionHeld3
import Derived.Deep.RegionHeldLaw
import Derived.Deep.DeepCutAuto
/-! PrimNone: the law's world is as it was. -/
namespace Go.Proofs.YtgponcjjnjpfkaaGreat.L
open Go.RowKit
open Go.Proofs
open P
set_option linter.unusedVariables false
set_option linter.unusedSimpArgs false
set_option maxHeartbeats 2000000
set_option maxRecDepth 100000
section
variable {W W' : World} {B g bd br bm bx bq bz : Nat} {F G : Nat → Prop} {ev qv : Value} {D : List Int} {R : List (Int × Int)} {m : M.MS}
theorem WW.below (h : WW W B g bd br bm bx bq bz F G ev qv D R m) (k : Below W.heap.size W W') : WW W' B g bd br bm bx bq bz F G ev qv D R m :=
  ⟨(k.block _ (S.lt_of h.blk)).trans h.blk, h.p.below k, ⟨(k.block _ (S.lt_of h.x.blk)).trans h.x.blk, S.own_kept h.x.row fun g _ hg => k.block g hg, h.x.hb, h.x.len⟩, ⟨(k.block _ (S.lt_of h.y.blk)).trans h.y.blk, S.own_kept h.y.row fun g _ hg => k.block g hg, h.y.hb, h.y.len⟩, h.z.below k, h.ng, h.nx, h.nq, h.nev, h.nqv, h.nd, h.fg, h.lo, h.lf, h.lg⟩
theorem WW.drew (h : WW W B g bd br bm bx bq bz F G ev qv D R m) : WW W.drew B g bd br bm bx bq bz F G ev qv D R m := h.below ((Below.refl _ _).drew)
theorem WW.c6 (h : WW W B g bd br bm bx bq bz F G ev qv D R m) : W.cell? ⟨g, 0, none⟩ = some (.pointer (some ⟨bd, 0, none⟩)) ∧ W.cell? ⟨g, 1, none⟩ = some (.pointer (some ⟨br, 0, none⟩)) ∧ W.cell? ⟨g, 2, none⟩ = some (.pointer (some ⟨bm, 0, none⟩)) ∧ W.cell? ⟨g, 3, none⟩ = some (.pointer (some ⟨bx, 0, none⟩)) ∧ W.cell? ⟨g, 4, none⟩ = some (.pointer (some ⟨bq, 0, none⟩)) ∧ W.cell? ⟨g, 5, none⟩ = some (.pointer (some ⟨bz, 0, none⟩)) :=
  ⟨S.cell_of W g 0 _ 37 _ h.blk rfl, S.cell_of W g 1 _ 37 _ h.blk rfl, S.cell_of W g 2 _ 37 _ h.blk rfl, S.cell_of W g 3 _ 37 _ h.blk rfl, S.cell_of W g 4 _ 37 _ h.blk rfl, S.cell_of W g 5 _ 37 _ h.blk rfl⟩
theorem ls_at {α : Type} {e : α → List Value} {s : Nat} {W : World} {p : Option Addr} {n c : Nat} {l : List α} (h : S.Ls e s W (.slice p n c) l) : S.Sl e s W p l := by
  obtain ⟨p', c', e', _, h'⟩ := h.ex
  cases e'
  exact h'
theorem bel2 {a b : World} (h : Below W.heap.size W a) (k : Below a.heap.size a b) : Below W.heap.size W b := h.trans (k.mono h.size)
theorem stacks_any (h : WW W B g bd br bm bx bq bz F G ev qv D R m) :
    Calls Tryz.prog 31 #[.pointer (some ⟨g, 0, none⟩)] W fun e w' => e = .returned (.bool true) ∧ Below W.heap.size W w' := by
  obtain ⟨pe, ce, rfl, _, _⟩ := (S.RowU.ls h.x.row).ex
  obtain ⟨pq, cq, rfl, _, _⟩ := (S.RowK.ls h.y.row).ex
  have hlD := h.x.len
  have hlR := h.y.len
  have h1 := S.dcells bd D W.drew h.drew.p.d
  have s0 : W.drew.cell? ⟨g, 0, none⟩ = some (.pointer (some ⟨bd, 0, none⟩)) ∧ W.drew.cell? ⟨g, 1, none⟩ = some (.pointer (some ⟨br, 0, none⟩)) := ⟨h.drew.c6.1, h.drew.c6.2.1⟩
  have HW := S.hid h.drew
  clear h
  go_enter Tryz.func31, Tryz.ntmps31
  go_wp2_with fail
  go_region_held (fun w' => w'.cell? ⟨g, 0, none⟩ = some (.pointer (some ⟨bd, 0, none⟩)) ∧ w'.cell? ⟨g, 1, none⟩ = some (.pointer (some ⟨br, 0, none⟩)))
    (first | (with_reducible exact s0) | (with_reducible exact s1) | (with_reducible exact s2))
    (first
      | (go_at_call 17; refine h1.mono ?_; rintro e w2 ⟨u, rfl, hu, hb2⟩; obtain ⟨pu, cu, rfl, _, _⟩ := (S.RowU.ls hu).ex; have hW2 := HW.out.below hb2; have s1 := And.intro hW2.c6.1 hW2.c6.2.1; have h2 := S.rcells br R w2 hW2.p.r; have H2 := S.hid (And.intro hu hb2); clear h1 hu hb2 hW2 s0)
      | (go_at_call 13; refine h2.mono ?_; rintro e w3 ⟨u3, rfl, hu3, hb3⟩; obtain ⟨pr, cr, rfl, _, _⟩ := (S.RowK.ls hu3).ex; have hW3 := (HW.out.below H2.out.2).below hb3; have s2 := And.intro hW3.c6.1 hW3.c6.2.1; have H3 := S.hid (And.intro hu3 hb3); clear h2 hu3 hb3 hW3 s1))
  have hW3 := (HW.out.below H2.out.2).below H3.out.2
  obtain ⟨c0, c1, c2, c3, c4, c5⟩ := hW3.c6
  have x0 := S.cell_of _ bx 0 _ 89 _ hW3.x.blk rfl
  have hu3 : S.RowU w3 W.drew.heap.size (.slice pu D.length cu) D := S.own_kept H2.out.1 fun g _ hg => H3.out.2.block g hg
  have k3 := S.sameU pu pe cu ce D (by unfold S.room; omega) w3 (ls_at hu3.ls) (ls_at (S.RowU.ls hW3.x.row))
  have HW3 := S.hid hW3
  have HB3 := S.hid (bel2 H2.out.2 H3.out.2)
  clear s2 hW3 hu3
  go_wp2_with fail
  refine k3.mono ?_
  rintro e w4 ⟨rfl, q, hw4⟩
  have hb4 : Below w3.heap.size w3 w4 := by rw [hw4]; exact ⟨rfl, rfl, rfl, Nat.le_refl _, fun _ _ => rfl⟩
  have hW4 := HW3.out.below hb4
  obtain ⟨d0, d1, d2, d3, d4, d5⟩ := hW4.c6
  have y0 := S.cell_of _ bq 0 _ 91 _ hW4.y.blk rfl
  have hr4 : S.RowK w4 w2.heap.size (.slice pr R.length cr) R := S.own_kept H3.out.1 fun g _ hg => hb4.block g hg
  have k4 := S.sameK pr pq cr cq R (by unfold S.room; omega) w4 (ls_at hr4.ls) (ls_at (S.RowK.ls hW4.y.row))
  have HB4 := S.hid (bel2 HB3.out hb4)
  clear k3 hW4 hr4 hb4 hw4 c0 c1 c2 c3 c4 c5 x0
  go_wp2_with fail
  refine k4.mono ?_
  rintro e w5 ⟨rfl, q5, hw5⟩
  have hb5 : Below w4.heap.size w4 w5 := by rw [hw5]; exact ⟨rfl, rfl, rfl, Nat.le_refl _, fun _ _ => rfl⟩
  have HB5 := S.hid (bel2 HB4.out hb5)
  clear k4 hb5 hw5 d0 d1 d2 d3 d4 d5 y0
  go_wp2
  go_ret
  exact ⟨rfl, bel2 ((Below.refl _ W).drew) HB5.out⟩
theorem ImO_forms {W : World} {B : Nat} {u rv sv : Value} {bs : List (Int × List UInt8)} {ram scr : List UInt8} {gs : List (Nat × Nat)} {N1 N2 : Nat} (h : M.ImO W B u rv sv bs ram scr gs N1 N2) (hd : ∀ t ∈ bs, t.2.length ≤ M.room) :
    ∃ p c rp rc sp sc', u = .slice p bs.length c ∧ rv = .slice rp ram.length rc ∧ sv = .slice sp scr.length sc' ∧ M.BnS W p bs ∧ M.Sl W rv ram ∧ M.Sl W sv scr := by
  obtain ⟨p, c, e, hb⟩ := h.banks.ex hd
  obtain ⟨rp, rc, e2⟩ := M.own_form h.ram
  obtain ⟨sp, sc', e3⟩ := M.own_form h.scr
  exact ⟨p, c, rp, rc, sp, sc', e, e2, e3, hb, h.ram.sl, h.scr.sl⟩
end
end Go.Proofs.YtgponcjjnjpfkaaGreat.L
