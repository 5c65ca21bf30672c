import Derived.Test.YtoemoiehjdmheaaGreatRNode
import Derived.Test.YtoemoiehjdmheaaGreatRRes
namespace Go.Proofs.YtoemoiehjdmheaaGreat.R
open Go.RowKit
open Go.Proofs
open Go.Proofs.YtoemoiehjdmheaaGreat.Y (Nd Df Ps ndc dfc hid NV DV D1 cells6)
open Go.ChangeMaps (setBlock)
set_option linter.unusedVariables false
set_option linter.unusedSimpArgs false
set_option maxHeartbeats 2000000
set_option maxRecDepth 100000
def B2 (w : World) (s t mb : Nat) (cs : List Value) : Prop := w.heap[s]? = some (.cells [.map (some mb)].toArray 166 (0, 0)) /\ w.heap[t]? = some (.cells cs.toArray 60 (0, 0))
theorem B2.below {w w' : World} {s t mb : Nat} {cs : List Value} (h : B2 w s t mb cs) {B : Nat} (k : Below B w w') (hs : s < B) (ht : t < B) : B2 w' s t mb cs :=
 ⟨(k.block _ hs).trans h.1, (k.block _ ht).trans h.2⟩
theorem box_cd (mb : Nat) (d : Df) (q : Option Addr) (c : Nat) (W : World) : ∃ W0 W1, W.alloc (.cells #[.map (some mb)] 166) = W0 /\ W0.alloc (.cells #[.int .i64 d.k, .string d.nm, .int .u16 d.v, .slice q d.body.length c, .int .i64 d.p.1, .int .i64 d.p.2] 60) = W1 /\ Below W.heap.size W W1 /\ W0.heap.size = W.heap.size + 1 /\ W1.heap.size = W.heap.size + 2 /\ B2 W1 W.heap.size W0.heap.size mb (dfc d (.slice q d.body.length c)) := by
 refine ⟨_, _, rfl, rfl, ((Below.refl _ _).alloc (Nat.le_refl _) _).alloc (by simp) _, by simp, by simp, ?_, ?_⟩
 ·exact (Below.heap_alloc _ _ _ (by simp)).trans (heap_alloc_new W _)
 ·exact heap_alloc_new _ _
theorem def_any (names : List ByteArray) (d : Df) (hs : d.nm.size <= maxLen) (bv : Value) (O : Nat -> Prop) (mb : Nat) (W : World) (hO : ∀ j, O j -> j < W.heap.size) (hN : NV W O bv d.body) (hM : MP W mb (numb names 0)) :
  Calls Tryz.prog 60 #[.agg #[.map (some mb)], .agg (dfc d bv).toArray] W fun e w' => e = .returned (.int .i64 (dfE names d)) /\ Below W.heap.size W w' := by
 obtain ⟨q, c, rfl, _, _⟩ := hN.ex
 obtain ⟨W0, W1, hW0, hW1, hB, hs0, hs1, hv⟩ := box_cd mb d q c W
 have hM1 := hM.below hB hM.lt
 have hF : ∀ w, Calls Tryz.prog 80 #[.agg #[.int .i64 d.k, .string d.nm, .int .u16 d.v, .slice q d.body.length c, .int .i64 d.p.1, .int .i64 d.p.2]] w fun e w' => e = .returned (.bool (fieldsF d.k d.v d.body.isEmpty)) /\ Below w.heap.size w w' := fun w => fieldsFit_any d q c w
 have hI : ∀ w, Calls Tryz.prog 81 #[.string d.nm] w fun e w' => e = .returned (.bool (isNm d.nm)) /\ Below w.heap.size w w' := fun w => isName_any d.nm hs w
 have hNo : ∀ w, Below W1.heap.size W1 w -> Calls Tryz.prog 82 #[.agg #[.map (some mb)], .slice q d.body.length c, .agg #[.int .i64 0, .bool false]] w fun e w' => e = .returned (.int .i64 (cks names d.body (0, false))) /\ Below w.heap.size w w' := fun w hw => by
  have hww : Below W.heap.size W w := hB.trans (hw.mono hB.size)
  exact nodes_any names d.body _ O mb (0, false) w (fun j hj => Nat.lt_of_lt_of_le (hO j hj) hww.size) (hN.below hww hO) (hM.below hww hM.lt) (by simp)
 have hV : ∀ w, Below W1.heap.size W1 w -> B2 w W.heap.size W0.heap.size mb (dfc d (.slice q d.body.length c)) := fun w hw => hv.below hw (by omega) (by omega)
 have HM := hid hM1
 have HB := hid hB
 have HV := hid hV
 have H1 := hid (Below.refl W1.heap.size W1)
 have HF := hid hF
 have HI := hid hI
 have HNo := hid hNo
 have hlook : ∃ x : Int, (Instr.lookup 164 (.map (some mb)) (.string d.nm) true).run Tryz.prog W1 = .ok (.tuple #[.int .i64 x, .bool (names.any fun s => decide (s = d.nm))]) W1 := by
  rw [<- lk_numb d.nm names 0]
  cases hl : lk (numb names 0) d.nm with
  | none => exact ⟨0, look_no W1 mb d.nm _ hM1 hl⟩
  | some x => exact ⟨x, look_yes W1 mb d.nm x _ hM1 hl⟩
 obtain ⟨xl, hlook⟩ := hlook
 have HE : Y.Hd (dfE names d = if fieldsF d.k d.v d.body.isEmpty = false then 100 else if isNm d.nm = false then 101 else if names.any (fun s => decide (s = d.nm)) = true then 102 else if d.k = 3 /\ 16384 < d.v then 106 else cks names d.body (0, false)) := ⟨rfl⟩
 obtain ⟨y0, y1⟩ := id hv
 have c0 := S.cell_of W1 _ 0 _ 166 _ y0 rfl
 have x0 := S.cell_of W1 _ 0 _ 60 _ y1 rfl
 have x1 := S.cell_of W1 _ 1 _ 60 _ y1 rfl
 have x2 := S.cell_of W1 _ 2 _ 60 _ y1 rfl
 have x3 := S.cell_of W1 _ 3 _ 60 _ y1 rfl
 have x4 := S.cell_of W1 _ 4 _ 60 _ y1 rfl
 have x5 := S.cell_of W1 _ 5 _ 60 _ y1 rfl
 unfold dfc
 generalize hr : dfE names d = R at *
 clear hr y0 y1 hv hM hM1 hB hV hF hI hNo hs0 hs1 hO hN hs
 generalize hz : (names.any fun s => decide (s = d.nm)) = tw at *
 clear hz
 go_enter Tryz.func60, Tryz.ntmps60
 go_wp2_with fail
 refine (HF.out _).mono ?_
 rintro e w1 ⟨rfl, hb⟩
 have Hw1 := hid (H1.out.trans (hb.mono H1.out.size))
 clear hb c0 x0 x1 x2 x3 x4 x5 hlook hW0 hW1
 generalize fieldsF d.k d.v d.body.isEmpty = z1 at *
 cases z1
 ·go_wp2
  go_ret
  exact ⟨by rw [HE.out]; rfl, HB.out.trans (Hw1.out.mono HB.out.size)⟩
 ·obtain ⟨y0, y1⟩ := HV.out _ Hw1.out
  have x1 := S.cell_of w1 _ 1 _ 60 _ y1 rfl
  clear y0 y1
  go_wp2_with fail
  refine (HI.out _).mono ?_
  rintro e w2 ⟨rfl, hb⟩
  have Hw2 := hid (Hw1.out.trans (hb.mono Hw1.out.size))
  clear hb x1
  generalize isNm d.nm = z2 at *
  cases z2
  ·go_wp2
   go_ret
   exact ⟨by rw [HE.out]; rfl, HB.out.trans (Hw2.out.mono HB.out.size)⟩
  ·cases tw
   ·obtain ⟨y0, y1⟩ := HV.out _ Hw2.out
    have c0 := S.cell_of w2 _ 0 _ 166 _ y0 rfl
    have x0 := S.cell_of w2 _ 0 _ 60 _ y1 rfl
    have x2 := S.cell_of w2 _ 2 _ 60 _ y1 rfl
    have x3 := S.cell_of w2 _ 3 _ 60 _ y1 rfl
    clear y0 y1
    by_cases k3 : d.k = 3
    ·have b3 : (d.k == 3) = true := by simpa using k3
     by_cases hval : 16384 < d.v
     ·have g1 : decide (d.v > 16384) = true := by simpa using hval
      have HR : Y.Hd (R = 106) := ⟨by rw [HE.out]; simp [k3, hval]⟩
      clear k3
      go_wp2
      go_ret
      exact ⟨by rw [HR.out]; rfl, HB.out.trans (Hw2.out.mono HB.out.size)⟩
     ·have g1 : decide (d.v > 16384) = false := by simpa using hval
      have HR : Y.Hd (R = cks names d.body (0, false)) := ⟨by rw [HE.out]; simp [k3, hval]⟩
      clear k3
      go_wp2_with fail
      refine (HNo.out _ Hw2.out).mono ?_
      rintro e w3 ⟨rfl, hb⟩
      have Hw3 := hid (Hw2.out.trans (hb.mono Hw2.out.size))
      clear hb c0 x0 x2 x3
      go_wp2
      go_ret
      exact ⟨by rw [HR.out]; rfl, HB.out.trans (Hw3.out.mono HB.out.size)⟩
    ·have b3 : (d.k == 3) = false := by simpa using k3
     have HR : Y.Hd (R = cks names d.body (0, false)) := ⟨by rw [HE.out]; simp [k3]⟩
     clear k3
     go_wp2_with fail
     refine (HNo.out _ Hw2.out).mono ?_
     rintro e w3 ⟨rfl, hb⟩
     have Hw3 := hid (Hw2.out.trans (hb.mono Hw2.out.size))
     clear hb c0 x0 x2 x3
     go_wp2
     go_ret
     exact ⟨by rw [HR.out]; rfl, HB.out.trans (Hw3.out.mono HB.out.size)⟩
   ·go_wp2
    go_ret
    exact ⟨by rw [HE.out]; rfl, HB.out.trans (Hw2.out.mono HB.out.size)⟩
end Go.Proofs.YtoemoiehjdmheaaGreat.R
