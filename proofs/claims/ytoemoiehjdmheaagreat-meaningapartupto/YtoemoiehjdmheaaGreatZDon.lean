import Derived.Test.YtoemoiehjdmheaaGreatDDrop
import Derived.Test.YtoemoiehjdmheaaGreatZOn
namespace Go.Proofs.YtoemoiehjdmheaaGreat.Z
open Go.RowKit
open Go.Proofs
open Go.Proofs.YtoemoiehjdmheaaGreat.Y (Nd Df Ps Pl hid ZV)
set_option linter.unusedVariables false
set_option linter.unusedSimpArgs false
set_option maxHeartbeats 4000000
set_option maxRecDepth 100000
theorem rest_C {D : List Int} (hD : ∀ x ∈ D, C.C x) (i : Nat) : ∀ x ∈ P.rest D i, C.C x := fun x hx => hD x (List.mem_of_mem_take hx)
theorem lk_C {R : List (Int × Int)} (hR : ∀ q ∈ R, C.C q.2) (k : Int) (bl : Nat) : C.C (P.lk k bl R).1 := by
 have z : C.C 0 := ⟨by omega, by omega⟩
 unfold P.lk
 split
 ·exact z
 ·split
  ·exact z
  ·split
   ·cases e : R[R.length - 1 - bl]? with
    | none => exact z
    | some q => exact hR q (List.mem_of_getElem? e)
   ·exact z
theorem put_C (op x y z s : Int) (m : M.MS) (hx : C.C x) (hy : C.C y) (hz : C.C z) (hs : C.C s) (hm : M.Wf m) : ∀ u ∈ P.putN op x y z s m, C.C u := by
 have h1 := M.ld_bound m hm x
 have h2 := M.ld_bound m hm ((x + 1) % 65536)
 have c1 : C.C (M.ld m x) := ⟨h1.1, by omega⟩
 have c2 : C.C (M.cl m x) := by unfold M.cl; exact ⟨by omega, by omega⟩
 have c3 : C.C m.pad := ⟨hm.pad0, by have := hm.pad1; omega⟩
 intro u hu
 unfold P.putN at hu
 split at hu
 all_goals first
  | (simp only [List.mem_cons, List.not_mem_nil, or_false] at hu; rcases hu with rfl | rfl | rfl | rfl <;> assumption)
  | (simp only [List.mem_cons, List.not_mem_nil, or_false] at hu; rcases hu with rfl | rfl | rfl <;> assumption)
  | (simp only [List.mem_cons, List.not_mem_nil, or_false] at hu; rcases hu with rfl | rfl <;> assumption)
  | (simp only [List.mem_cons, List.not_mem_nil, or_false] at hu; subst hu; assumption)
  | skip
 split at hu
 ·simp at hu; subst hu; exact C.C_un _ _
 ·split at hu
  ·simp at hu; subst hu; exact C.C_bi _ _ _
  ·simp at hu
theorem nD_C (op : Int) {D : List Int} {R : List (Int × Int)} {m : M.MS} (hD : ∀ x ∈ D, C.C x) (hR : ∀ q ∈ R, C.C q.2) (hm : M.Wf m) : ∀ x ∈ P.nD op D R m, C.C x := by
 intro x hx
 unfold P.nD at hx
 rcases List.mem_append.1 hx with hx | hx
 ·exact rest_C hD _ x hx
 ·exact put_C _ _ _ _ _ m (P.C_xAt D hD _ _) (P.C_xAt D hD _ _) (P.C_xAt D hD _ _) (lk_C hR _ _) hm x hx
theorem nR_C (op : Int) {D : List Int} {R : List (Int × Int)} (hD : ∀ x ∈ D, C.C x) (hR : ∀ q ∈ R, C.C q.2) : ∀ q ∈ P.nR op D R, C.C q.2 := by
 intro q hq
 unfold P.nR P.retN at hq
 split at hq
 ·rcases List.mem_append.1 hq with hq | hq
  ·exact hR q hq
  ·simp only [List.mem_cons, List.not_mem_nil, or_false] at hq
   rcases hq with rfl | rfl <;> exact P.C_xAt D hD _ _
 ·rcases List.mem_append.1 hq with hq | hq
  ·exact hR q hq
  ·simp only [List.mem_cons, List.not_mem_nil, or_false] at hq
   subst hq; exact P.C_xAt D hD _ _
 ·exact hR q (List.mem_of_mem_take hq)
 ·exact hR q hq
theorem drewNB (W : World) (q : Nat) : Below W.heap.size W (W.drewN q) := ⟨rfl, rfl, rfl, Nat.le_refl _, fun _ _ => rfl⟩
theorem at_below {b : Nat} {W W1 W' : World} (hb : Below W.heap.size W W1) (h : S.At b W1 W') : S.At b W W' :=
 ⟨h.os.trans hb.os, h.tape.trans hb.tape, h.output.trans hb.output, Nat.le_trans hb.size h.size, fun k hk hn => (h.block k (Nat.lt_of_lt_of_le hk hb.size) hn).trans (hb.block k hk)⟩
theorem boxn (W : World) (op x : Int) (wq : Option Addr) (p : Ps) : ∃ W1, W.alloc (.cells #[.int .i64 op, .int .u16 x, .pointer wq, .int .i64 p.1, .int .i64 p.2] 84) = W1 /\ Below W.heap.size W W1 /\ W1.heap[W.heap.size]? = some (.cells [.int .i64 op, .int .u16 x, .pointer wq, .int .i64 p.1, .int .i64 p.2].toArray 84 (0, 0)) /\ W1.heap.size = W.heap.size + 1 := by
 refine ⟨_, rfl, (Below.refl _ _).alloc (Nat.le_refl _) _, heap_alloc_new W _, by simp⟩
def DnO (op x : Int) (wq : Option Addr) (p : Ps) (v : VS) (g bd br bm bs : Nat) (F O : Nat -> Prop) (W : World) : Prop :=
 Calls Tryz.prog 56 #[.pointer (some ⟨g, 0, none⟩), .agg #[.int .i64 op, .int .u16 x, .pointer wq, .int .i64 p.1, .int .i64 p.2]] W fun e W' => e = .returned (.tuple #[.bool (dn op x v).b, .int .i64 (dn op x v).f]) /\ VD W W' g bd br bm bs F O (dn op x v).v
section
variable (x : Int) (wq : Option Addr) (p : Ps) (v : VS) (g bd br bm bs c : Nat) (F O : Nat -> Prop) (W : World)
theorem done_10 (h : MV W g bd br bm bs c F O v) : DnO 10 x wq p v g bd br bm bs F O W := by
 unfold DnO
 have ht : dn 10 x v = ⟨false, 0, v⟩ := rfl
 rw [ht]
 obtain ⟨W1, hW1, hb1, u1, hs1⟩ := boxn W 10 x wq p
 have hM := h.below hb1
 have x0 := S.cell_of W1 _ 0 _ _ _ u1 rfl
 have x1 := S.cell_of W1 _ 1 _ _ _ u1 rfl
 have HW1 := hid hW1
 have hv : VD W W1 g bd br bm bs F O v := h.same hb1
 clear h hM u1 hW1 hb1 hs1 ht
 go_enter Tryz.func56, Tryz.ntmps56
 go_upto_region 1 with fail
 rw [HW1.out]
 go_wp2
 go_ret2
 exact ⟨rfl, hv⟩
theorem done_4 (h : MV W g bd br bm bs c F O v) : DnO 4 x wq p v g bd br bm bs F O W := by
 unfold DnO
 have ht : dn 4 x v = ⟨true, 0, v⟩ := rfl
 rw [ht]
 obtain ⟨W1, hW1, hb1, u1, hs1⟩ := boxn W 4 x wq p
 have hM := h.below hb1
 have x0 := S.cell_of W1 _ 0 _ _ _ u1 rfl
 have x1 := S.cell_of W1 _ 1 _ _ _ u1 rfl
 have HW1 := hid hW1
 have hv : VD W W1 g bd br bm bs F O v := h.same hb1
 clear h hM u1 hW1 hb1 hs1 ht
 go_enter Tryz.func56, Tryz.ntmps56
 go_upto_region 1 with fail
 rw [HW1.out]
 go_wp2
 go_ret2
 exact ⟨rfl, hv⟩
theorem done_11 (h : MV W g bd br bm bs c F O v) : DnO 11 x wq p v g bd br bm bs F O W := by
 unfold DnO
 have ht : dn 11 x v = ⟨false, 0, { v with st := 2 }⟩ := rfl
 rw [ht]
 obtain ⟨W1, hW1, hb1, u1, hs1⟩ := boxn W 11 x wq p
 have hM := h.below hb1
 have x0 := S.cell_of W1 _ 0 _ _ _ u1 rfl
 have x1 := S.cell_of W1 _ 1 _ _ _ u1 rfl
 have HW1 := hid hW1
 have hv : VD W (W1.setCell ⟨g, 0, none⟩ (.int .i64 2)) g bd br bm bs F O { v with st := 2 } := VD.pre hb1 (hM.halts 2)
 have c0 := hM.c0
 have z0 := fz hM 0
 clear h hM u1 hW1 hb1 hs1 ht
 go_enter Tryz.func56, Tryz.ntmps56
 go_upto_region 1 with fail
 rw [HW1.out]
 go_wp2
 go_ret2
 exact ⟨rfl, hv⟩
theorem done_7 (h : MV W g bd br bm bs c F O v) : DnO 7 x wq p v g bd br bm bs F O W := by
 unfold DnO
 have ht : dn 7 x v = turn v := rfl
 rw [ht]
 obtain ⟨W1, hW1, hb1, u1, hs1⟩ := boxn W 7 x wq p
 have hM := h.below hb1
 have x0 := S.cell_of W1 _ 0 _ _ _ u1 rfl
 have x1 := S.cell_of W1 _ 1 _ _ _ u1 rfl
 have HW1 := hid hW1
 have hn := turns_any g bd br bm bs c F O v W1 hM
 have HB1 := hid hb1
 clear h hM u1 hW1 hs1 ht hb1
 go_enter Tryz.func56, Tryz.ntmps56
 go_upto_region 1 with fail
 rw [HW1.out]
 go_wp2_with fail
 refine hn.mono ?_
 rintro e w1 ⟨rfl, hf⟩
 have HF := hid (VD.pre HB1.out hf)
 clear hn hf x0 x1
 go_wp2
 go_ret2
 exact ⟨rfl, HF.out⟩
theorem done_5 (h : MV W g bd br bm bs c F O v) : DnO 5 x wq p v g bd br bm bs F O W := by
 unfold DnO
 obtain ⟨W1, hW1, hb1, u1, hs1⟩ := boxn W 5 x wq p
 have hM := h.below hb1
 have x0 := S.cell_of W1 _ 0 _ _ _ u1 rfl
 have x1 := S.cell_of W1 _ 1 _ _ _ u1 rfl
 have HW1 := hid hW1
 have c2 := hM.c2
 have hn := S.dneed bd v.D 1 0 W1 hM.ps.d
 have hd := hM.ps.d
 have HB1 := hid hb1
 rcases List.eq_nil_or_concat v.D with hr | ⟨l, a, hr⟩
 ·have ht : dn 5 x v = ⟨false, 1, v⟩ := by unfold dn; simp only; rw [hr]; rfl
  rw [ht]
  have e : S.need v.D.length 1 0 = 1 := by rw [hr]; rfl
  rw [e] at hn
  have hv := h.same hb1
  clear h hd ht hr e hM u1 hW1 hs1 hb1
  go_enter Tryz.func56, Tryz.ntmps56
  go_upto_region 1 with fail
  rw [HW1.out]
  go_wp2_with fail
  refine hn.mono ?_
  rintro e w1 ⟨rfl, rfl⟩
  go_wp2
  go_ret2
  exact ⟨rfl, hv⟩
 ·have hl := hd.2
  rw [hr] at hl
  have ht : dn 5 x v = ⟨a == 0, 0, { v with D := l }⟩ := by unfold dn; simp only; rw [hr]; simp
  rw [ht]
  have e : S.need v.D.length 1 0 = 0 := by
   rw [hr]; unfold S.need; simp at hl ⊢; rw [if_neg (by omega)]; rw [if_neg (by omega)]
  rw [e] at hn
  have hp := S.dpop bd l a W1 (by rw [hr] at hd; simpa using hd)
  have hv : ∀ w', S.HasD w' bd l -> S.At bd W1 w' -> VD W w' g bd br bm bs F O { v with D := l } := fun w' a1 a2 =>
   VD.pre hb1 (hM.kd a2 a1 fun x hx => h.wf.d x (by rw [hr]; simp [hx]))
  clear h hd ht hr e hl hM u1 hW1 hs1 hb1
  go_enter Tryz.func56, Tryz.ntmps56
  go_upto_region 1 with fail
  rw [HW1.out]
  go_wp2_with fail
  refine hn.mono ?_
  rintro e w1 ⟨rfl, rfl⟩
  go_wp2_with fail
  refine hp.mono ?_
  rintro e w2 ⟨rfl, a1, a2⟩
  have hf := hv _ a1 a2
  clear a1 a2 hv hp hn x0 x1 c2
  go_wp2
  go_ret2
  exact ⟨rfl, hf⟩
end
theorem done_push (op : Int) (ho : op = 2 \/ op = 3) (x : Int) (hx : C.C x) (wq : Option Addr) (p : Ps) (v : VS) (g bd br bm bs c : Nat) (F O : Nat -> Prop) (W : World) (h : MV W g bd br bm bs c F O v) : DnO op x wq p v g bd br bm bs F O W := by
 unfold DnO
 obtain ⟨W1, hW1, hb1, u1, hs1⟩ := boxn W op x wq p
 have hM := h.below hb1
 have x0 := S.cell_of W1 _ 0 _ _ _ u1 rfl
 have x1 := S.cell_of W1 _ 1 _ _ _ u1 rfl
 have HW1 := hid hW1
 have c2 := hM.c2
 have hbx : W.heap.size < W1.heap.size := by omega
 have hgx : g ≠ W.heap.size := by have := h.lt; omega
 have hgd : g ≠ bd := h.ne.1
 have hdx : W.heap.size ≠ bd := by have := h.lt_d; omega
 have hb2 := P.bel_alloc W1.drew (.cells #[.int .u16 x] 57)
 have hs : S.Sl S.eU 1 (W1.drew.alloc (.cells #[.int .u16 x] 57)) (some ⟨W1.drew.heap.size, 0, none⟩) [x] :=
  P.sl_block S.hU _ _ _ [x] (heap_alloc_new W1.drew (.cells #[.int .u16 x] 57))
 have hM2 := (hM.below (drewB W1)).below hb2
 have hkeep : ∀ w', S.At bd (W1.drew.alloc (.cells #[.int .u16 x] 57)) w' -> w'.cell? ⟨g, 2, none⟩ = some (.pointer (some ⟨bd, 0, none⟩)) /\ w'.cell? ⟨W.heap.size, 1, none⟩ = some (.int .u16 x) := fun w' a2 =>
  ⟨(World.cell?_of_block (w := W1.drew.alloc (.cells #[.int .u16 x] 57)) (a2.block g hM2.lt hgd)).trans hM2.c2, (World.cell?_of_block (w := W1.drew.alloc (.cells #[.int .u16 x] 57)) (a2.block W.heap.size (Nat.lt_of_lt_of_le hbx hb2.size) hdx)).trans ((hb2.cell (show W.heap.size < W1.drew.heap.size from hbx)).trans x1)⟩
 have s1 : (W1.drew.alloc (.cells #[.int .u16 x] 57)).cell? ⟨g, 2, none⟩ = some (.pointer (some ⟨bd, 0, none⟩)) /\ (W1.drew.alloc (.cells #[.int .u16 x] 57)).cell? ⟨W.heap.size, 1, none⟩ = some (.int .u16 x) := hkeep _ (S.Tc.refl _ _)
 have s0 : W1.drew.cell? ⟨g, 2, none⟩ = some (.pointer (some ⟨bd, 0, none⟩)) /\ W1.drew.cell? ⟨W.heap.size, 1, none⟩ = some (.int .u16 x) := ⟨c2, x1⟩
 have HBA := hid (trB (trB hb1 (drewB W1) hb1.size) hb2 hb1.size)
 have HS := hid (And.intro s0 s1)
 have HK := hid hkeep
 have o1 : (op == 10) = false := by rcases ho with rfl | rfl <;> rfl
 have o2 : (op == 11) = false := by rcases ho with rfl | rfl <;> rfl
 have ht : dn op x v = if 256 < v.D.length + 1 then ⟨false, 2, v⟩ else ⟨false, 0, { v with D := v.D ++ [x] }⟩ := by rcases ho with rfl | rfl <;> rfl
 have hz : W1.drew.heap.size = W1.heap.size := rfl
 by_cases q1 : 256 < v.D.length + 1
 ·rw [ht, if_pos q1]
  have hp := S.dpush_no bd v.D [x] (some ⟨W1.heap.size, 0, none⟩) 1 _ hM2.ps.d (by simpa using q1) (by unfold S.room; simp)
  simp only [List.length_cons, List.length_nil, Nat.reduceAdd] at hp
  have hv := h.same HBA.out
  have HP := hid (And.intro hp hv)
  clear h hb2 hs ht q1 hM hM2 u1 hW1 hb1 hs1 hbx c2 hgx hgd hdx hkeep s0 s1 hp hv
  rcases ho with rfl | rfl
  all_goals
   go_enter Tryz.func56, Tryz.ntmps56
   go_upto_region 9 with fail
   rw [HW1.out]
   clear x0 x1
   refine wp_region_held_drew (S := fun w' : World => w'.cell? ⟨g, 2, none⟩ = some (.pointer (some ⟨bd, 0, none⟩)) /\ w'.cell? ⟨W.heap.size, 1, none⟩ = some (.int .u16 x)) (by kernel_rfl) HS.out.1 (fun hHeld => ?_)
   refine D.zH (is := [0, 1, 2, 3, 4, 5]) ?_
   iterate 6
    refine D.yH (v := ?_) rfl (by kernel_rfl) (fun c a w h => h) (by rfl) ?_ hHeld ?_
    rotate_left
    ·(intro w hSw; obtain ⟨c2, x1⟩ := hSw; go_simp; try with_reducible rfl)
    simp only [D.pts]
   refine D.eH ?_
   refine wpAnyH_ready (rs := [6]) (by kernel_rfl) (by simp) ?_
   refine AllReadyH.cons rfl (fun K hK => ?_) AllReadyH.nil
   go_simp
   refine hK.out _ _ HS.out.2 (fun hHeld => ?_)
   clear hK K
   try simp only [D.pts]
   refine wpAnyH_ready (rs := [7]) (by kernel_rfl) (by simp) ?_
   refine AllReadyH.cons rfl (fun K hK => ?_) AllReadyH.nil
   go_simp
   refine HP.out.1.mono ?_
   rintro e w1 ⟨rfl, rfl⟩
   refine hK.out _ _ HS.out.2 (fun hHeld => ?_)
   clear hK K
   try simp only [D.pts]
   refine wpAnyH_ready (rs := [8]) (by kernel_rfl) (by simp) ?_
   refine AllReadyH.cons rfl (fun K hK => ?_) AllReadyH.nil
   go_simp
   refine hK.out _ _ HS.out.2 (fun hHeld => ?_)
   clear hK K
   try simp only [D.pts]
   refine wpAnyH_ready (rs := [9]) (by kernel_rfl) (by simp) ?_
   refine AllReadyH.cons rfl (fun K hK => ?_) AllReadyH.nil
   go_simp
   refine hK.out _ _ HS.out.2 (fun hHeld => ?_)
   clear hK K
   try simp only [D.pts]
   refine wpAnyH_done (by kernel_rfl) ?_ _
   clear hHeld
   go_wp2
   go_ret2
   exact ⟨rfl, HP.out.2⟩
 ·rw [ht, if_neg q1]
  have hp := S.dpush_yes bd v.D [x] (some ⟨W1.heap.size, 0, none⟩) 1 _ hM2.ps.d hs (by simp; omega)
  simp only [List.length_cons, List.length_nil, Nat.reduceAdd] at hp
  have hv : ∀ w', S.HasD w' bd (v.D ++ [x]) -> S.At bd (W1.drew.alloc (.cells #[.int .u16 x] 57)) w' -> VD W w' g bd br bm bs F O { v with D := v.D ++ [x] } := fun w' a1 a2 =>
   VD.pre HBA.out (hM2.kd a2 a1 fun q hq => by
    rcases List.mem_append.1 hq with hq | hq
    ·exact h.wf.d q hq
    ·simp at hq; subst hq; exact hx)
  have HP := hid (And.intro hp hv)
  clear h hb2 hs ht q1 hM hM2 u1 hW1 hb1 hs1 hbx c2 hgx hgd hdx hkeep s0 s1 hp hv
  rcases ho with rfl | rfl
  all_goals
   go_enter Tryz.func56, Tryz.ntmps56
   go_upto_region 9 with fail
   rw [HW1.out]
   clear x0 x1
   refine wp_region_held_drew (S := fun w' : World => w'.cell? ⟨g, 2, none⟩ = some (.pointer (some ⟨bd, 0, none⟩)) /\ w'.cell? ⟨W.heap.size, 1, none⟩ = some (.int .u16 x)) (by kernel_rfl) HS.out.1 (fun hHeld => ?_)
   refine D.zH (is := [0, 1, 2, 3, 4, 5]) ?_
   iterate 6
    refine D.yH (v := ?_) rfl (by kernel_rfl) (fun c a w h => h) (by rfl) ?_ hHeld ?_
    rotate_left
    ·(intro w hSw; obtain ⟨c2, x1⟩ := hSw; go_simp; try with_reducible rfl)
    simp only [D.pts]
   refine D.eH ?_
   refine wpAnyH_ready (rs := [6]) (by kernel_rfl) (by simp) ?_
   refine AllReadyH.cons rfl (fun K hK => ?_) AllReadyH.nil
   go_simp
   refine hK.out _ _ HS.out.2 (fun hHeld => ?_)
   clear hK K
   try simp only [D.pts]
   refine wpAnyH_ready (rs := [7]) (by kernel_rfl) (by simp) ?_
   refine AllReadyH.cons rfl (fun K hK => ?_) AllReadyH.nil
   go_simp
   refine HP.out.1.mono ?_
   rintro e w1 ⟨rfl, a1, a2⟩
   refine hK.out _ _ (HK.out _ a2) (fun hHeld => ?_)
   clear hK K
   try simp only [D.pts]
   refine wpAnyH_ready (rs := [8]) (by kernel_rfl) (by simp) ?_
   refine AllReadyH.cons rfl (fun K hK => ?_) AllReadyH.nil
   go_simp
   refine hK.out _ _ (HK.out _ a2) (fun hHeld => ?_)
   clear hK K
   try simp only [D.pts]
   refine wpAnyH_ready (rs := [9]) (by kernel_rfl) (by simp) ?_
   refine AllReadyH.cons rfl (fun K hK => ?_) AllReadyH.nil
   go_simp
   refine hK.out _ _ (HK.out _ a2) (fun hHeld => ?_)
   clear hK K
   try simp only [D.pts]
   refine wpAnyH_done (by kernel_rfl) ?_ _
   have HF := hid (HP.out.2 _ a1 a2)
   clear hHeld a1 a2
   go_wp2
   go_ret2
   exact ⟨rfl, HF.out⟩
theorem dn_pl (op x : Int) (v : VS) (h : P.plain op = true) : dn op x v = pl op v := by
 rcases P.plain_cases op h with rfl | rfl | rfl | rfl | rfl | rfl | rfl | rfl | rfl | rfl | rfl | rfl | rfl | rfl | rfl | rfl | rfl | rfl | rfl | rfl | rfl | rfl | rfl | rfl | rfl | rfl | rfl | rfl | rfl | rfl | rfl | rfl | rfl | rfl | rfl | rfl | rfl | rfl | rfl | rfl | rfl | rfl | rfl | rfl | rfl | rfl | rfl | rfl | rfl | rfl | rfl | rfl | rfl | rfl <;> rfl
theorem done_plain (op : Int) (hp : P.plain op = true) (x : Int) (wq : Option Addr) (p : Ps) (v : VS) (ht : v.m.tones.length <= 999000) (g bd br bm bs c : Nat) (F O : Nat -> Prop) (W : World) (h : MV W g bd br bm bs c F O v) : DnO op x wq p v g bd br bm bs F O W := by
 unfold DnO
 rw [dn_pl op x v hp]
 obtain ⟨W1, hW1, hb1, u1, hs1⟩ := boxn W op x wq p
 have hM := h.below hb1
 have x0 := S.cell_of W1 _ 0 _ _ _ u1 rfl
 have x1 := S.cell_of W1 _ 1 _ _ _ u1 rfl
 have HW1 := hid hW1
 have hM2 := hM.below (drewB W1)
 have hb2 := trB hb1 (drewB W1) hb1.size
 have hdo := P.do_any op hp bd br bm F v.D v.R v.m h.wf.d ht W1.drew hM2.ps
 have hbx : W.heap.size < W1.heap.size := by omega
 have hv : ∀ w', (P.fl op v.D v.R ≠ 0 -> Below W1.drew.heap.size W1.drew w') /\ (P.fl op v.D v.R = 0 -> P.PD W1.drew w' bd br bm F (P.nD op v.D v.R v.m) (P.nR op v.D v.R) (P.nM op v.D v.m)) -> VD W w' g bd br bm bs F O (pl op v).v /\ (w'.cell? ⟨g, 2, none⟩ = some (.pointer (some ⟨bd, 0, none⟩)) /\ w'.cell? ⟨g, 3, none⟩ = some (.pointer (some ⟨br, 0, none⟩)) /\ w'.cell? ⟨g, 4, none⟩ = some (.pointer (some ⟨bm, 0, none⟩)) /\ w'.cell? ⟨W.heap.size, 0, none⟩ = some (.int .i64 op)) := by
  intro w' ⟨k1, k2⟩
  unfold pl
  by_cases q : P.fl op v.D v.R = 0
  ·simp only [q, if_true]
   have k := k2 q
   have hD := hM2.goes (W' := w') k ⟨nD_C op h.wf.d h.wf.r h.ps.m.wf, nR_C op h.wf.d h.wf.r, h.wf.c, h.wf.o, k.s.r.2⟩
   refine ⟨VD.pre hb2 hD, ?_⟩
   obtain ⟨bs', c', F', hm, _, _⟩ := hD.s
   refine ⟨hm.c2, hm.c3, hm.c4, (World.cell?_of_block (w := W1.drew) (k.t.block W.heap.size hbx ?_)).trans x0⟩
   rintro (e | e | e)
   ·have := h.lt_d; omega
   ·have := h.lt_r; omega
   ·have := h.fl _ e; omega
  ·simp only [q, if_false]
   have k := k1 q
   have hm := hM2.below k
   exact ⟨h.same (trB hb2 k hb2.size), hm.c2, hm.c3, hm.c4, (k.cell (show W.heap.size < W1.drew.heap.size from hbx)).trans x0⟩
 have ef : (pl op v).f = P.fl op v.D v.R := rfl
 have eo : (pl op v).b = false := rfl
 rw [ef, eo]
 have o : ∀ k : Int, k = 10 \/ k = 8 \/ k = 11 \/ k = 2 \/ k = 3 \/ k = 1 \/ k = 5 \/ k = 7 \/ k = 4 -> (op == k) = false := by
  intro k hk
  unfold P.plain at hp
  simp only [Bool.or_eq_true, Bool.and_eq_true, beq_iff_eq, decide_eq_true_eq] at hp
  rw [beq_eq_false_iff_ne]; omega
 have o10 := o 10 (by decide)
 have o11 := o 11 (by decide)
 have o2 := o 2 (by decide)
 have o3 := o 3 (by decide)
 have o5 := o 5 (by decide)
 have o7 := o 7 (by decide)
 have o4 := o 4 (by decide)
 have s0 : W1.drew.cell? ⟨g, 2, none⟩ = some (.pointer (some ⟨bd, 0, none⟩)) /\ W1.drew.cell? ⟨g, 3, none⟩ = some (.pointer (some ⟨br, 0, none⟩)) /\ W1.drew.cell? ⟨g, 4, none⟩ = some (.pointer (some ⟨bm, 0, none⟩)) /\ W1.drew.cell? ⟨W.heap.size, 0, none⟩ = some (.int .i64 op) := ⟨hM2.c2, hM2.c3, hM2.c4, x0⟩
 generalize P.fl op v.D v.R = fl at *
 have HV := hid hv
 clear h hM hM2 hv ef eo o ht hp u1 hW1 hb1 hs1 hb2 hbx
 go_enter Tryz.func56, Tryz.ntmps56
 go_upto_region 17 with fail
 rw [HW1.out]
 clear x0 x1
 refine wp_region_held_drew (S := fun w' : World => w'.cell? ⟨g, 2, none⟩ = some (.pointer (some ⟨bd, 0, none⟩)) /\ w'.cell? ⟨g, 3, none⟩ = some (.pointer (some ⟨br, 0, none⟩)) /\ w'.cell? ⟨g, 4, none⟩ = some (.pointer (some ⟨bm, 0, none⟩)) /\ w'.cell? ⟨W.heap.size, 0, none⟩ = some (.int .i64 op)) (by kernel_rfl) s0 (fun hHeld => ?_)
 clear s0
 refine D.zH (is := [0, 1, 2, 3, 4, 5, 6, 7, 8, 9, 10, 11, 12, 13]) ?_
 iterate 14
  refine D.yH (v := ?_) rfl (by kernel_rfl) (fun c a w h => h) (by rfl) ?_ hHeld ?_
  rotate_left
  ·(intro w hSw; obtain ⟨c2, c3, c4, x0⟩ := hSw; go_simp; try with_reducible rfl)
  simp only [D.pts]
 refine D.eH ?_
 refine wpAnyH_ready (rs := [14]) (by kernel_rfl) (by simp) ?_
 refine AllReadyH.cons rfl (fun K hK => ?_) AllReadyH.nil
 go_simp
 refine hdo.mono ?_
 rintro e w1 ⟨rfl, hE⟩
 obtain ⟨hF, s1⟩ := HV.out w1 hE
 refine hK.out _ _ s1 (fun hHeld => ?_)
 clear hK K
 try simp only [D.pts]
 refine wpAnyH_ready (rs := [15]) (by kernel_rfl) (by simp) ?_
 refine AllReadyH.cons rfl (fun K hK => ?_) AllReadyH.nil
 go_simp
 refine hK.out _ _ s1 (fun hHeld => ?_)
 clear hK K
 try simp only [D.pts]
 refine wpAnyH_ready (rs := [16]) (by kernel_rfl) (by simp) ?_
 refine AllReadyH.cons rfl (fun K hK => ?_) AllReadyH.nil
 go_simp
 refine hK.out _ _ s1 (fun hHeld => ?_)
 clear hK K
 try simp only [D.pts]
 refine wpAnyH_done (by kernel_rfl) ?_ _
 have HF := hid hF
 clear hE hF s1 HV hdo hHeld
 go_wp2
 go_ret2
 exact ⟨rfl, HF.out⟩
theorem done_any (op : Nat) (h1 : 1 <= op) (h2 : op < 64) (n1 : op ≠ 1) (n8 : op ≠ 8) (x : Int) (hx : C.C x) (wq : Option Addr) (p : Ps) (v : VS) (ht : v.m.tones.length <= 999000) (g bd br bm bs c : Nat) (F O : Nat -> Prop) (W : World) (h : MV W g bd br bm bs c F O v) : DnO (op : Int) x wq p v g bd br bm bs F O W := by
 by_cases a2 : op = 2 \/ op = 3
 ·exact done_push op (by omega) x hx wq p v g bd br bm bs c F O W h
 by_cases a3 : op = 4
 ·subst a3; exact done_4 x wq p v g bd br bm bs c F O W h
 by_cases a4 : op = 5
 ·subst a4; exact done_5 x wq p v g bd br bm bs c F O W h
 by_cases a7 : op = 7
 ·subst a7; exact done_7 x wq p v g bd br bm bs c F O W h
 by_cases a5 : op = 10
 ·subst a5; exact done_10 x wq p v g bd br bm bs c F O W h
 by_cases a6 : op = 11
 ·subst a6; exact done_11 x wq p v g bd br bm bs c F O W h
 refine done_plain op ?_ x wq p v ht g bd br bm bs c F O W h
 unfold P.plain
 simp only [Bool.or_eq_true, Bool.and_eq_true, beq_iff_eq, decide_eq_true_eq]
 omega
set_option maxHeartbeats 4000000
set_option maxRecDepth 100000
theorem wbegin_any (wb : Nat) (l : List Mn) (bv : Value) (wp : Ps) (O : Nat -> Prop) (W : World) (hb : W.heap[wb]? = some (.cells [bv, .int .i64 wp.1, .int .i64 wp.2].toArray 149 (0, 0))) (hN : MNV W O bv l) (hO : ∀ i, O i -> i < W.heap.size) (hOb : O wb) :
  Calls Tryz.prog 35 #[.pointer (some ⟨wb, 0, none⟩)] W fun e' w' => ∃ v, e' = .returned v /\ PV W O (bgn l 0 []) wp v /\ Below W.heap.size W w' := by
 obtain ⟨p, c, rfl, _, _⟩ := hN.ex
 have HC := hid (fun (w : World) (k : Below W.heap.size W w) => show w.cell? ⟨wb, 0, none⟩ = some (.slice p l.length c) /\ w.cell? ⟨wb, 1, none⟩ = some (.int .i64 wp.1) /\ w.cell? ⟨wb, 2, none⟩ = some (.int .i64 wp.2) from by
  have h2 := (k.block wb (hO _ hOb)).trans hb
  exact ⟨S.cell_of w _ 0 _ _ _ h2 rfl, S.cell_of w _ 1 _ _ _ h2 rfl, S.cell_of w _ 2 _ _ _ h2 rfl⟩)
 have hcall := fun W' (k : Below W.heap.size W W') => first_up (O := O) l p c 152 (.agg #[.int .i64 wp.1, .int .i64 wp.2]) [] wp hN rfl hO W' k
 have HF := hid hcall
 clear hb hN hcall
 generalize l.length = N at *
 go_enter Tryz.func35, Tryz.ntmps35
 go_upto_region 1 with fail
 refine wp_region_held_drew (S := fun w' : World => Below W.heap.size W w') (by kernel_rfl) (drewB W) (fun hHeld => ?_)
 generalize W.drew = y0 at *
 refine D.zH (is := [0, 1, 2, 3, 4, 5, 6, 7, 8, 9]) ?_
 iterate 10
  refine D.yH (v := ?_) rfl (by kernel_rfl) (fun c a w h => h) (by rfl) ?_ hHeld ?_
  rotate_left
  ·(intro w hSw; obtain ⟨x0, x1, x2⟩ := HC.out w hSw; go_simp; try with_reducible rfl)
  simp only [D.pts]
 refine D.eH ?_
 refine wpAnyH_ready (rs := [10]) (by kernel_rfl) (by simp) ?_
 refine AllReadyH.cons rfl (fun K hK => ?_) AllReadyH.nil
 go_simp
 refine (HF.out y0 hHeld).mono ?_
 rintro e' y1 ⟨v, rfl, hv, hb1⟩
 have hs1 : Below W.heap.size W y1 := Below.trans hHeld (hb1.mono hHeld.size)
 refine hK.out _ _ hs1 (fun hHeld => ?_)
 clear hK K
 try simp only [D.pts]
 refine wpAnyH_ready (rs := [11]) (by kernel_rfl) (by simp) ?_
 refine AllReadyH.cons rfl (fun K hK => ?_) AllReadyH.nil
 go_simp
 refine hK.out _ _ hs1 (fun hHeld => ?_)
 clear hK K
 try simp only [D.pts]
 refine wpAnyH_done (by kernel_rfl) ?_ _
 clear hHeld
 go_wp2
 go_ret
 exact ⟨v, rfl, hv, hs1⟩
section
variable (v : VS) (g bd br bm bs c : Nat) (F O : Nat -> Prop) (W : World)
theorem infoPC : (Tryz.prog.info? 86).map (fun i => (i.zero, i.size, i.bytes)) = some (some .nilIface, 1, 16) := by kernel_rfl
theorem enter_any (h : MV W g bd br bm bs c F O v) (hl : v.o.length <= 128) (wb : Nat) (l : List Mn) (bv : Value) (wp : Ps) (hb : W.heap[wb]? = some (.cells [bv, .int .i64 wp.1, .int .i64 wp.2].toArray 149 (0, 0))) (hN : MNV W O bv l) (hOb : O wb) (hok : okL l) :
  Calls Tryz.prog 54 #[.pointer (some ⟨g, 0, none⟩), .pointer (some ⟨wb, 0, none⟩)] W fun e w' => e = .returned (.int .i64 (enter [l] wp v).1) /\ VD W w' g bd br bm bs F O (enter [l] wp v).2 := by
 have hbA := P.bel_alloc W (.cells #[.int .i64 1, .int .u16 0] 106)
 have hs : S.Sl S.eK 2 (W.alloc (.cells #[.int .i64 1, .int .u16 0] 106)) (some ⟨W.heap.size, 0, none⟩) [(1, 0)] :=
  P.sl_block S.hK _ _ _ [(1, 0)] (heap_alloc_new W (.cells #[.int .i64 1, .int .u16 0] 106))
 have c3 := h.c3
 by_cases q1 : 128 < v.R.length + 1
 ·have ht : enter [l] wp v = (4, v) := by unfold enter; rw [if_pos q1]
  rw [ht]
  have hp := S.rpush_no br v.R [(1, 0)] (some ⟨W.heap.size, 0, none⟩) 1 _ (h.ps.r.below hbA) (by simpa using q1) (by unfold S.room; simp)
  simp only [List.length_cons, List.length_nil, Nat.reduceAdd] at hp
  have hv := h.same hbA
  clear h hbA hs ht q1 hb hN hOb hok
  go_enter Tryz.func54, Tryz.ntmps54
  go_wp2_with fail
  refine hp.mono ?_
  rintro e w1 ⟨rfl, rfl⟩
  go_wp2
  go_ret
  exact ⟨rfl, hv⟩
 ·have ht : enter [l] wp v = (0, { v with R := v.R ++ [(1, 0)], o := v.o ++ [onc v.c false], c := ⟨bgn l 0 [], wp⟩ }) := by unfold enter; rw [if_neg q1]; rfl
  rw [ht]
  have hp := S.rpush_yes br v.R [(1, 0)] (some ⟨W.heap.size, 0, none⟩) 1 _ (h.ps.r.below hbA) hs (by simp; omega)
  simp only [List.length_cons, List.length_nil, Nat.reduceAdd] at hp
  have hv : ∀ w', S.HasR w' br (v.R ++ [(1, 0)]) -> S.At br (W.alloc (.cells #[.int .i64 1, .int .u16 0] 106)) w' -> VD W w' g bd br bm bs F O { v with R := v.R ++ [(1, 0)] } := fun w' a1 a2 =>
   h.kv (at_below hbA a2) a1 fun q hq => by
    rcases List.mem_append.1 hq with hq | hq
    ·exact h.wf.r q hq
    ·simp at hq; subst hq; exact ⟨by omega, by omega⟩
  have HH := hid (And.intro h (And.intro hb (And.intro hN (And.intro hOb (And.intro hok hl)))))
  clear h hbA hs ht q1 hb hN hOb hok
  go_enter Tryz.func54, Tryz.ntmps54
  go_wp2_with fail
  refine hp.mono ?_
  rintro e w1 ⟨rfl, a1, a2⟩
  have hV1 := hv _ a1 a2
  obtain ⟨bs1, c1, F1, hM1, hF1, hbs1⟩ := hV1.s
  have kg := goon_any hM1 HH.out.2.2.2.2.2 false
  have HV1 := hid (And.intro hV1 (And.intro hF1 hbs1))
  clear a1 a2 hv hp c3 hV1 hF1 hbs1 hM1
  go_wp2_with fail
  refine kg.mono ?_
  rintro e w2 ⟨rfl, hV2⟩
  obtain ⟨bs2, c2, F2, hM2, hF2, hbs2⟩ := hV2.s
  have hkO : ∀ i, O i -> w2.heap[i]? = W.heap[i]? := fun i hi => by
   have h1 := HH.out.1.ol i hi
   have hob := HH.out.1.ob i hi
   have e1 : w1.heap[i]? = W.heap[i]? := HV1.out.1.t.block i h1 (by rintro (e | e | e | e | e); exact hob.1 e; exact hob.2.1 e; exact hob.2.2.1 e; exact hob.2.2.2.1 e; exact hob.2.2.2.2 e)
   refine (hV2.t.block i (Nat.lt_of_lt_of_le h1 HV1.out.1.t.size) ?_).trans e1
   rintro (e | e | e | e | e)
   ·exact hob.1 e
   ·exact hob.2.1 e
   ·exact hob.2.2.1 e
   ·rcases HV1.out.2.2 with rfl | e'
    ·exact hob.2.2.2.1 e
    ·omega
   ·rcases HV1.out.2.1 i e with e | ⟨e, _⟩
    ·exact hob.2.2.2.2 e
    ·omega
  have hN2 : MNV w2 O bv l := HH.out.2.2.1.kept hkO fun _ h => h
  have hb2 := (hkO wb HH.out.2.2.2.1).trans HH.out.2.1
  have kw := fun W' (k : Below w2.heap.size w2 W') => wbegin_any wb l bv wp O W' ((k.block _ (hM2.ol _ HH.out.2.2.2.1)).trans hb2) (hN2.below k hM2.ol) (fun i hi => Nat.lt_of_lt_of_le (hM2.ol i hi) k.size) HH.out.2.2.2.1
  have c5 := hM2.c5
  have HV2 := hid (And.intro hV2 (And.intro hM2 (And.intro hF2 hbs2)))
  have HW := hid kw
  have hb20 : Below w2.heap.size w2 w2.drew := drewB w2
  clear kg hV2 hM2 hF2 hbs2 hkO hN2 hb2 kw
  go_upto_region 5 with fail
  refine D.wp_region_drop [11] (S := fun w' : World => w'.cell? ⟨g, 5, none⟩ = some (.slice (some ⟨bs2, 0, none⟩) (v.o.length + 1) c2)) (by kernel_rfl) (show w2.drew.cell? ⟨g, 5, none⟩ = _ from c5) (fun hHeld => ?_)
  generalize w2.drew = y0 at *
  clear c5
  refine D.zD (is := [0, 1, 2, 3, 4, 5]) ?_
  iterate 6
   refine D.yD (v := ?_) rfl (by kernel_rfl) (fun c a w h => h) (by rfl) ?_ hHeld ?_
   rotate_left
   ·(intro w hSw; have c5 := hSw; go_simp; try with_reducible rfl)
   simp only [D.pts]
  refine D.eD ?_
  refine D.wpD_ready (rs := [6]) (by kernel_rfl) (by simp) ?_
  refine D.AllD.cons rfl (fun K hK => ?_) D.AllD.nil
  go_simp
  refine (HW.out y0 hb20).mono ?_
  rintro e y1 ⟨x1, rfl, hx1, hb1⟩
  have hx1 := PV.up hb20 HV2.out.2.1.ol hx1
  obtain ⟨t1, u1, rfl⟩ := PV.isI _ _ _ hx1
  have hb1 := hb20.trans (hb1.mono hb20.size)
  refine hK.out _ _ (HV2.out.2.1.below hb1).c5 (fun hHeld => ?_)
  clear hK K
  try simp only [D.pts]
  have hb3 : Below w2.heap.size w2 (y1.alloc (.cells #[.iface t1 u1] 86)) := hb1.alloc hb1.size _
  have hcs : S.Cs (y1.alloc (.cells #[.iface t1 u1] 86)) (.slice (some ⟨y1.heap.size, 0, none⟩) 1 1) 1 1 [.iface t1 u1] := .inr ⟨_, _, rfl, rfl, fun j u hj => by rw [Addr.add_lit, Nat.zero_add]; exact S.cell_of _ _ j [.iface t1 u1] _ u (heap_alloc_new y1 _) hj, fun u hu => by simp at hu; subst hu; rfl⟩
  refine D.wpD_ready (rs := [7]) (by kernel_rfl) (by simp) ?_
  refine D.AllD.cons rfl (fun K hK => ?_) D.AllD.nil
  go_simp
  refine hK.out _ _ (HV2.out.2.1.below hb3).c5 (fun hHeld => ?_)
  clear hK K
  try simp only [D.pts]
  generalize y1.alloc (.cells #[.iface t1 u1] 86) = y3 at *
  have hM3 := HV2.out.2.1.below hb3
  obtain ⟨xs, hrow, hps⟩ := hM3.row
  have hl3 : v.o.length <= 128 := HH.out.2.2.2.2.2
  have hrow' : y3.ownsRow 0 86 1 (.slice (some ⟨bs2, 0, none⟩) (v.o.length + 1) c2) (v.o.length + 1) xs := hrow
  refine D.wpD_ready (rs := [8]) (by kernel_rfl) (by simp) ?_
  refine D.AllD.cons rfl (fun K hK => ?_) D.AllD.nil
  rw [if_pos (by rfl)]
  refine S.wp_append_row _ _ _ 74 86 .nilIface 1 16 Tryz.underlying74 infoPC rfl (by decide) rfl 0 _ (v.o.length + 1) xs rfl hrow' _ 1 _ rfl hcs (by unfold S.room; omega) (by unfold maxLen; omega) (by omega) (fun v5 w5 hr5 hg5 => ?_)
  obtain ⟨bs5, c5', rfl, hbs5, hM5, hT5⟩ := hM3.push ⟨bgn l 0 [], wp⟩ (.iface t1 u1) v5 w5 xs hps (hx1.below hb3 HV2.out.2.1.ol) (bgn_okP l 0 [] HH.out.2.2.2.2.1 fun f hf => by cases hf) hr5 hg5
  have hc5 : w5.cell? ⟨g, 5, none⟩ = some (.slice (some ⟨bs2, 0, none⟩) (v.o.length + 1) c2) := (World.cell?_of_block (w := y3) (hg5.block g hM3.lt (by intro e; exact hM3.ne.2.2.1 (by cases e; rfl)))).trans hM3.c5
  have hz5 : w5.frozen? ⟨g, 5, none⟩ = false := (World.frozen?_of_block (w := y3) (hg5.block g hM3.lt (by intro e; exact hM3.ne.2.2.1 (by cases e; rfl)))).trans (fz hM3 5)
  refine hK.out _ _ hc5 (fun hHeld => ?_)
  clear hK K
  try simp only [D.pts]
  refine D.zP (is := [9, 10]) ?_
  iterate 2
   refine D.yP (v := ?_) rfl (by kernel_rfl) (fun c a w h => h) (by rfl) ?_ (fun _ => hHeld) ?_
   rotate_left
   ·(intro w hSw; clear hSw; go_simp; try with_reducible rfl)
   simp only [D.pts]
  refine D.eP ?_
  refine D.wpD_ready (rs := [11]) (by kernel_rfl) (by simp) ?_
  refine D.AllD.late rfl (by kernel_rfl) (fun K hK => ?_)
  go_simp
  refine hK.out _ _ ?_
  clear hK K
  try simp only [D.pts]
  refine D.wpD_done (by kernel_rfl) ?_ _
  have hfin : VD W (w5.setCell ⟨g, 5, none⟩ (.slice (some ⟨bs5, 0, none⟩) (v.o.length + 1 + 1) c5')) g bd br bm bs F O { v with R := v.R ++ [(1, 0)], o := v.o ++ [onc v.c false], c := ⟨bgn l 0 [], wp⟩ } := by
   refine VD.step HV1.out.1.t HV1.out.2.1 HV1.out.2.2 (VD.step HV2.out.1.t HV2.out.2.2.1 HV2.out.2.2.2 (VD.pre hb3 ⟨⟨bs5, c5', F2, hM5, fun i hi => .inl hi, hbs5⟩, hT5⟩))
  have HF := hid hfin
  clear hHeld hc5 hz5 hfin hM5 hT5 hr5 hg5 hrow hrow' hps hcs hb3 hb1 hx1 hM3 hb20
  go_wp2
  go_ret
  exact ⟨rfl, HF.out⟩
theorem exit_any (h : MV W g bd br bm bs c F O v) (hk : calls v.R = v.o.length) :
  Calls Tryz.prog 55 #[.pointer (some ⟨g, 0, none⟩)] W fun e w' => e = .returned (.int .i64 (leave v).1) /\ VD W w' g bd br bm bs F O (leave v).2 := by
 have c3 := h.c3
 have kl := S.rlen br v.R W h.ps.r
 rcases List.eq_nil_or_concat v.R with hr | ⟨l, ⟨k, a⟩, hr⟩
 ·have ht : leave v = (0, { v with st := 2 }) := by unfold leave; rw [hr]; rfl
  rw [ht]
  have hv := h.halts 2
  have c0 := h.c0
  have z0 := fz h 0
  rw [hr] at kl
  simp only [List.length_nil] at kl
  clear h ht hr
  go_enter Tryz.func55, Tryz.ntmps55
  go_wp2_with fail
  refine kl.mono ?_
  rintro e w1 ⟨rfl, rfl⟩
  go_wp2
  go_ret
  exact ⟨rfl, hv⟩
 ·have hR := h.ps.r
  rw [hr] at hR kl
  simp only [List.concat_eq_append] at hR kl
  have hpos : ((((l ++ [(k, a)]).length : Nat) : Int) == 0) = false := by rw [beq_eq_false_iff_ne, List.length_append]; simp only [List.length_cons, List.length_nil]; omega
  generalize (((l ++ [(k, a)]).length : Nat) : Int) = K at *
  by_cases q1 : k = 1
  ·subst q1
   have hlen : v.o ≠ [] := by
    intro e
    rw [e, hr] at hk
    simp [calls] at hk
   obtain ⟨l2, pc, hpc⟩ : ∃ l2 pc, v.o = l2 ++ [pc] := by
    rcases List.eq_nil_or_concat v.o with e | ⟨l2, pc, e⟩
    ·exact absurd e hlen
    ·exact ⟨l2, pc, by simpa using e⟩
   have ht : leave v = (0, { v with R := l, o := l2, c := pc }) := by
    unfold leave; rw [hr]; simp [hpc]
   rw [ht]
   have hol : v.o.length = l2.length + 1 := by rw [hpc]; simp
   have hl128 : v.o.length <= 128 := by
    have h1 : calls v.R <= v.R.length := List.length_filter_le _ _
    have := h.wf.l; omega
   have hp := S.rpop_ok br l 1 a W hR
   have hv : ∀ w', S.HasR w' br l -> S.At br W w' -> VD W w' g bd br bm bs F O { v with R := l } := fun w' a1 a2 =>
    h.kv a2 a1 fun q hq => h.wf.r q (by rw [hr]; simp [hq])
   have HPC := hid hpc
   clear h ht hr hR hk hpc hlen
   go_enter Tryz.func55, Tryz.ntmps55
   go_wp2_with fail
   refine kl.mono ?_
   rintro e w1 ⟨rfl, hw1⟩
   obtain rfl := hw1.symm
   go_wp2_with fail
   refine hp.mono ?_
   rintro e w2 ⟨rfl, a1, a2⟩
   have hV := hv _ a1 a2
   obtain ⟨bs1, c1, F1, hM1, hF1, hbs1⟩ := hV.s
   have c5 := hM1.c5
   have z5 := fz hM1 5
   have hpop := hM1.pop pc l2 HPC.out
   have hfin : VD W (w2.setCell ⟨g, 5, none⟩ (.slice (some ⟨bs1, 0, none⟩) (l2.length + 1) c1)) g bd br bm bs F O { v with R := l, o := l2, c := pc } := VD.step hV.t hF1 hbs1 (hpop.vd (tc_set g 5 _ (.inl rfl)))
   have hcap : l2.length + 1 <= c1 := by
    obtain ⟨xs, hr, _⟩ := hM1.row
    rcases hr.2 with ⟨h', _⟩ | ⟨g', cap', cur, h', _, _, hnc, _⟩
    ·simp at h'
    ·cases h'; have hnc' : v.o.length + 1 <= c1 := hnc; have := hol; omega
   have HF := hid hfin
   simp only [hol] at c5 hl128
   clear a1 a2 hv hp kl hfin hpop hM1 hF1 hbs1 hV c3 hpos
   have w1' : wrap64 (((l2.length + 1 + 1 : Nat) : Int) - 1) = ((l2.length + 1 : Nat) : Int) := by unfold wrap64; omega
   have hc0 : w2.drew.cell? ⟨g, 5, none⟩ = some (.slice (some ⟨bs1, 0, none⟩) (l2.length + 1 + 1) c1) := c5
   have hz0 : w2.drew.frozen? ⟨g, 5, none⟩ = false := z5
   have hset : VD W (w2.drew.setCell ⟨g, 5, none⟩ (.slice (some ⟨bs1, 0, none⟩) (l2.length + 1) c1)) g bd br bm bs F O { v with R := l, o := l2, c := pc } := VD.post HF.out (drewB _)
   have HS := hid hset
   clear hset HF
   go_upto_region 7 with fail
   clear c5 z5
   refine D.wp_region_drop [14] (S := fun w' : World => w'.cell? ⟨g, 5, none⟩ = some (.slice (some ⟨bs1, 0, none⟩) (l2.length + 1 + 1) c1)) (by kernel_rfl) hc0 (fun hHeld => ?_)
   generalize w2.drew = y0 at *
   generalize l2.length = N2 at *
   have hwN : IntKind.i64.wrap ((N2 : Int) + 1) = (N2 : Int) + 1 := S.i64_id _ (by omega) (by omega)
   have hNc : (0 : Int) <= (N2 : Int) + 1 /\ (N2 : Int) + 1 <= (c1 : Int) := ⟨by omega, by omega⟩
   have hto : ((N2 : Int) + 1).toNat = N2 + 1 := by omega
   refine D.zD (is := [0, 1, 2, 3, 4, 5, 6, 7, 8, 9, 10, 11]) ?_
   iterate 12
    refine D.yD (v := ?_) rfl (by kernel_rfl) (fun c a w h => h) (by rfl) ?_ hHeld ?_
    rotate_left
    ·(intro w hSw; have c5 := hSw; go_simp; try with_reducible rfl)
    simp only [D.pts]
   refine D.eD ?_
   refine D.zP (is := [12, 13]) ?_
   iterate 2
    refine D.yP (v := ?_) rfl (by kernel_rfl) (fun c a w h => h) (by rfl) ?_ (fun _ => hHeld) ?_
    rotate_left
    ·(intro w hSw; clear hSw; go_simp; try with_reducible rfl)
    simp only [D.pts]
   refine D.eP ?_
   refine D.wpD_ready (rs := [14]) (by kernel_rfl) (by simp) ?_
   refine D.AllD.late rfl (by kernel_rfl) (fun K hK => ?_)
   have c5 := hHeld
   go_simp
   refine hK.out _ _ ?_
   clear hK K
   try simp only [D.pts]
   refine D.wpD_done (by kernel_rfl) ?_ _
   have HF := hid HS.out
   clear hHeld hc0 hz0 HS
   go_wp2
   go_ret
   exact ⟨rfl, HF.out⟩
  ·have ht : leave v = (5, v) := by unfold leave; rw [hr]; simp [q1]
   rw [ht]
   have hp := S.rpop_kind br l k a 1 q1 W hR
   have hv : ∀ q, VD W (W.drewN q) g bd br bm bs F O v := fun q => h.same (drewNB W q)
   clear h ht hr hR q1 hk
   go_enter Tryz.func55, Tryz.ntmps55
   go_wp2_with fail
   refine kl.mono ?_
   rintro e w1 ⟨rfl, rfl⟩
   go_wp2_with fail
   refine hp.mono ?_
   rintro e w2 ⟨rfl, q, rfl⟩
   clear hp kl
   go_wp2
   go_ret
   exact ⟨rfl, hv q⟩
end
end Go.Proofs.YtoemoiehjdmheaaGreat.Z
