import Derived.Test.YtlilefhmohkfkaaGreatDoorEGrow
import Derived.Laws.StructEq
import Derived.Laws.BytesArg
namespace Go.Proofs.YtlilefhmohkfkaaGreatDoor.E
open Go.RowKit
open Go.Proofs
open Go.Proofs.YtlilefhmohkfkaaGreatDoor.Y (Nd Df Ps ndc dfc hid)
set_option linter.unusedVariables false
set_option linter.unusedSimpArgs false
set_option maxHeartbeats 2000000
set_option maxRecDepth 100000
theorem box_s (s : St) (W : World) : ∃ W0, W.alloc (.cells #[.bool s.dead, .int .i64 s.h, .string ⟨s.own.toArray⟩] 129) = W0 /\ Below W.heap.size W W0 /\ W0.heap.size = W.heap.size + 1 /\ SB W0 W.heap.size s :=
 ⟨_, rfl, (Below.refl _ _).alloc (Nat.le_refl _) _, by simp, heap_alloc_new W _⟩
theorem kind_any (s : St) (n : Nat) (hn : n <= 2) (hl : s.own.length <= 1000) (W : World) :
  Calls Tryz.prog 120 #[.agg (stc s).toArray, .int .i64 (n : Int)] W fun e w' => e = .returned (.int .u8 (kd s n)) /\ Below W.heap.size W w' := by
 obtain ⟨W0, hW0, hB, hs, k1⟩ := box_s s W
 obtain ⟨x0, x1, x2⟩ := k1.cells
 have HB := hid hB
 have HK : Y.Hd (kd s n = if s.own.length <= n then 0 else ((s.own.getD (s.own.length - 1 - n) 0).toNat : Int)) := ⟨rfl⟩
 generalize kd s n = z at *
 have hsz : (⟨s.own.toArray⟩ : ByteArray).size = s.own.length := by simp [ByteArray.size]
 clear k1 hB hs
 unfold stc
 by_cases c : s.own.length <= n
 ·have c1 : decide ((s.own.length : Int) <= (n : Int)) = true := decide_eq_true (by omega)
  have c2 : decide ((n : Int) ≥ (s.own.length : Int)) = true := decide_eq_true (by omega)
  go_enter Tryz.func120, Tryz.ntmps120
  go_wp2
  go_ret
  exact ⟨by rw [HK.out, if_pos c]; rfl, HB.out⟩
 ·have c1 : decide ((s.own.length : Int) <= (n : Int)) = false := decide_eq_false (by omega)
  have c2 : decide ((n : Int) ≥ (s.own.length : Int)) = false := decide_eq_false (by omega)
  go_enter Tryz.func120, Tryz.ntmps120
  go_wp2
  go_ret
  exact ⟨by rw [HK.out, if_neg c, List.getD_eq_getElem?_getD, List.getElem?_eq_getElem (by omega)]; rfl, HB.out⟩
theorem rf_56 (s : St) (hl : s.own.length <= 1000) (W : World) :
  Calls Tryz.prog 112 #[.int .i64 56, .agg (stc s).toArray] W fun e w' => e = .returned (.bool (kd s 0 == 4)) /\ Below W.heap.size W w' := by
 obtain ⟨W0, hW0, hB, hs, k1⟩ := box_s s W
 obtain ⟨x0, x1, x2⟩ := k1.cells
 have HB := hid hB
 have hc := kind_any s 0 (by omega) hl W0
 generalize kd s 0 = z at *
 clear k1 hB hs
 unfold stc at hc ⊢
 go_enter Tryz.func112, Tryz.ntmps112
 go_wp2_with fail
 refine hc.mono ?_
 rintro e w1 ⟨rfl, hb⟩
 have HB1 := hid (HB.out.trans (hb.mono HB.out.size))
 clear hb hc x0 x1 x2 hW0
 go_wp2
 go_ret
 exact ⟨rfl, HB1.out⟩
theorem rf_57 (s : St) (hl : s.own.length <= 1000) (W : World) :
  Calls Tryz.prog 112 #[.int .i64 57, .agg (stc s).toArray] W fun e w' => e = .returned (.bool (kd s 0 == 4)) /\ Below W.heap.size W w' := by
 obtain ⟨W0, hW0, hB, hs, k1⟩ := box_s s W
 obtain ⟨x0, x1, x2⟩ := k1.cells
 have HB := hid hB
 have hc := kind_any s 0 (by omega) hl W0
 generalize kd s 0 = z at *
 clear k1 hB hs
 unfold stc at hc ⊢
 go_enter Tryz.func112, Tryz.ntmps112
 go_wp2_with fail
 refine hc.mono ?_
 rintro e w1 ⟨rfl, hb⟩
 have HB1 := hid (HB.out.trans (hb.mono HB.out.size))
 clear hb hc x0 x1 x2 hW0
 go_wp2
 go_ret
 exact ⟨rfl, HB1.out⟩
theorem rf_58 (s : St) (hl : s.own.length <= 1000) (W : World) :
  Calls Tryz.prog 112 #[.int .i64 58, .agg (stc s).toArray] W fun e w' => e = .returned (.bool (kd s 0 == 3)) /\ Below W.heap.size W w' := by
 obtain ⟨W0, hW0, hB, hs, k1⟩ := box_s s W
 obtain ⟨x0, x1, x2⟩ := k1.cells
 have HB := hid hB
 have hc := kind_any s 0 (by omega) hl W0
 generalize kd s 0 = z at *
 clear k1 hB hs
 unfold stc at hc ⊢
 go_enter Tryz.func112, Tryz.ntmps112
 go_wp2_with fail
 refine hc.mono ?_
 rintro e w1 ⟨rfl, hb⟩
 have HB1 := hid (HB.out.trans (hb.mono HB.out.size))
 clear hb hc x0 x1 x2 hW0
 go_wp2
 go_ret
 exact ⟨rfl, HB1.out⟩
theorem rf_59 (s : St) (hl : s.own.length <= 1000) (W : World) :
  Calls Tryz.prog 112 #[.int .i64 59, .agg (stc s).toArray] W fun e w' => e = .returned (.bool (kd s 2 == 3)) /\ Below W.heap.size W w' := by
 obtain ⟨W0, hW0, hB, hs, k1⟩ := box_s s W
 obtain ⟨x0, x1, x2⟩ := k1.cells
 have HB := hid hB
 have hc := kind_any s 2 (by omega) hl W0
 generalize kd s 2 = z at *
 clear k1 hB hs
 unfold stc at hc ⊢
 go_enter Tryz.func112, Tryz.ntmps112
 go_wp2_with fail
 refine hc.mono ?_
 rintro e w1 ⟨rfl, hb⟩
 have HB1 := hid (HB.out.trans (hb.mono HB.out.size))
 clear hb hc x0 x1 x2 hW0
 go_wp2
 go_ret
 exact ⟨rfl, HB1.out⟩
theorem rf_r (op : Int) (b1 : (op == 56) = false) (b2 : (op == 57) = false) (b3 : (op == 58) = false) (b4 : (op == 59) = false) (s : St) (W : World) :
  Calls Tryz.prog 112 #[.int .i64 op, .agg (stc s).toArray] W fun e w' => e = .returned (.bool true) /\ Below W.heap.size W w' := by
 obtain ⟨W0, hW0, hB, hs, k1⟩ := box_s s W
 have HB := hid hB
 clear k1 hB hs
 unfold stc
 go_enter Tryz.func112, Tryz.ntmps112
 go_wp2
 go_ret
 exact ⟨rfl, HB.out⟩
theorem returnFits_any (op : Int) (s : St) (hl : s.own.length <= 1000) (W : World) :
  Calls Tryz.prog 112 #[.int .i64 op, .agg (stc s).toArray] W fun e w' => e = .returned (.bool (rfits op s)) /\ Below W.heap.size W w' := by
 unfold rfits
 by_cases c1 : op = 56
 ·subst c1; rw [if_pos (Or.inl rfl)]; exact rf_56 s hl W
 by_cases c2 : op = 57
 ·subst c2; rw [if_pos (Or.inr rfl)]; exact rf_57 s hl W
 rw [if_neg (by omega)]
 by_cases c3 : op = 58
 ·subst c3; rw [if_pos rfl]; exact rf_58 s hl W
 rw [if_neg c3]
 by_cases c4 : op = 59
 ·subst c4; rw [if_pos rfl]; exact rf_59 s hl W
 rw [if_neg c4]
 exact rf_r op (by simpa using c1) (by simpa using c2) (by simpa using c3) (by simpa using c4) s W
theorem cat_own (a b : List UInt8) : ((⟨a.toArray⟩ : ByteArray) ++ (⟨b.toArray⟩ : ByteArray)) = ⟨(a ++ b).toArray⟩ := by
 apply ByteArray.ext
 simp
theorem put_any (x : X) (p : Ps) (ks : List UInt8) (hl : x.2.own.length <= 1000) (hk : ks.length <= 1000) (kv : Value) (O : Nat -> Prop) (g : Nat) (mv av : Value) (W : World) (hO : ∀ j, O j -> j < W.heap.size) (hks : Y.BS W O kv ks) (h : EW W g mv av x.1) :
  Calls Tryz.prog 113 #[.pointer (some ⟨g, 0, none⟩), .agg (stc x.2).toArray, .agg #[.int .i64 p.1, .int .i64 p.2], kv] W (EO W g mv av (fun s => .agg (stc s).toArray) (put x p ks)) := by
 obtain ⟨w, s⟩ := x
 obtain ⟨W0, W1, W2, hW0, hW1, hW2, hB, hs0, hs1, hs2, k1, k2, k3⟩ := box_spr s p W
 have hE : EW W2 g mv av w := (hB.block g h.lt).trans h
 have hgl := h.lt
 have hcv := (hks.below hB hO).conv
 obtain ⟨kp, kc, rfl⟩ := hks.ex
 simp only at hl h
 have n1 : W.heap.size ≠ g := by omega
 have n2 : W0.heap.size ≠ g := by omega
 have n3 : W1.heap.size ≠ g := by omega
 have hne : W1.heap.size ≠ W.heap.size := by omega
 have hne0 : W0.heap.size ≠ W.heap.size := by omega
 have hsz1 : (⟨s.own.toArray⟩ : ByteArray).size = s.own.length := by simp [ByteArray.size]
 have hsz2 : (⟨ks.toArray⟩ : ByteArray).size = ks.length := by simp [ByteArray.size]
 have hsz3 : (⟨(s.own ++ ks).toArray⟩ : ByteArray).size = s.own.length + ks.length := by simp [ByteArray.size]
 have hcat := cat_own s.own ks
 obtain ⟨x0, x1, x2⟩ := k1.cells
 obtain ⟨y0, y1⟩ := k2.cells
 have f2 := k1.fro 2
 have j1 : SB (W2.setCell ⟨W.heap.size, 2, none⟩ (.string ⟨(s.own ++ ks).toArray⟩)) W.heap.size { s with own := s.own ++ ks } := S.setCell_heap W2 W.heap.size 2 _ 129 _ k1
 have j2 : PB (W2.setCell ⟨W.heap.size, 2, none⟩ (.string ⟨(s.own ++ ks).toArray⟩)) W0.heap.size p := (S.setCell_other W2 W.heap.size 2 W0.heap.size _ hne0).trans k2
 have j3 : SB (W2.setCell ⟨W.heap.size, 2, none⟩ (.string ⟨(s.own ++ ks).toArray⟩)) W1.heap.size s0 := (S.setCell_other W2 W.heap.size 2 W1.heap.size _ hne).trans k3
 have jE : EW (W2.setCell ⟨W.heap.size, 2, none⟩ (.string ⟨(s.own ++ ks).toArray⟩)) g mv av w := (S.setCell_other W2 W.heap.size 2 g _ (Ne.symm n1)).trans hE
 have jG : Gw g W (W2.setCell ⟨W.heap.size, 2, none⟩ (.string ⟨(s.own ++ ks).toArray⟩)) := (Gw.of hB).setN W.heap.size 2 _ (Nat.le_refl _)
 have HJ := hid (And.intro j1 (And.intro j2 (And.intro j3 (And.intro jE jG))))
 have HN := hid (And.intro n1 (And.intro n2 (And.intro n3 hs1)))
 have HR : Y.Hd (put (w, s) p ks = match grow w 0 0 ((s.own.length + ks.length : Nat) : Int) p with | .error e => .error e | .ok w => .ok (w, { s with own := s.own ++ ks })) := ⟨rfl⟩
 generalize put (w, s) p ks = R at *
 clear j1 j2 j3 jE jG k1 k2 k3 hs0 hs1 hs2 hE hks hO n1 n2 n3 hne hne0 hB h
 unfold stc
 go_enter Tryz.func113, Tryz.ntmps113
 go_upto_region 2 with fail
 clear x0 x1 x2 y0 y1 f2 hcv hW0 hW1 hW2 hcat hsz1 hsz2
 generalize W2.setCell ⟨W.heap.size, 2, none⟩ (.string ⟨(s.own ++ ks).toArray⟩) = y at *
 obtain ⟨x0, x1, x2⟩ := HJ.out.1.cells
 obtain ⟨y0, y1⟩ := HJ.out.2.1.cells
 have hcall := grow_any w 0 0 ((s.own.length + ks.length : Nat) : Int) p g mv av y HJ.out.2.2.2.1
 generalize hgr : grow w 0 0 ((s.own.length + ks.length : Nat) : Int) p = G at *
 clear hgr
 go_wp2_with fail
 refine hcall.mono ?_
 intro e w1 hp
 clear hcall x0 x1 x2 y0 y1 hsz3
 cases G with
 | error er =>
  obtain ⟨rfl, hG⟩ := hp
  refine ⟨rfl, ?_⟩
  rw [HR.out]
  exact ⟨rfl, HJ.out.2.2.2.2.trans hG⟩
 | ok w' =>
  obtain ⟨rfl, hE, hG⟩ := hp
  have k1 : SB w1 W.heap.size { s with own := s.own ++ ks } := hG.keep HJ.out.1 HN.out.1
  have k3 : SB w1 W1.heap.size s0 := hG.keep HJ.out.2.2.1 HN.out.2.2.1
  obtain ⟨x0, x1, x2⟩ := k1.cells
  have k6 : SB (w1.setRow W1.heap.size (stc { s with own := s.own ++ ks }).toArray) W1.heap.size { s with own := s.own ++ ks } := setRow_heap w1 W1.heap.size _ _ _ _ k3
  have hE6 : EW (w1.setRow W1.heap.size (stc { s with own := s.own ++ ks }).toArray) g mv av w' := (setRow_other w1 W1.heap.size g _ (Ne.symm HN.out.2.2.1)).trans hE
  have hG6 : Gw g W (w1.setRow W1.heap.size (stc { s with own := s.own ++ ks }).toArray) := (HJ.out.2.2.2.2.trans hG).setR W1.heap.size _ (by have := HN.out.2.2.2; omega)
  unfold stc at k6 hE6 hG6
  simp only at k6 hE6 hG6
  have H6 := hid (And.intro k6 (And.intro hE6 hG6))
  clear k6 hE6 hG6 hE hG k1
  go_wp2_with (refine wpList_store_row rfl 129 _ _ rfl W1.heap.size _ rfl rfl 129 _ k3 (by exact sizeS) (by rfl) (by simp [Value.oneCell']) ?_)
  refine bodyPost_ret (st_end 8 rfl rfl H6.out.1) rfl ?_
  rw [HR.out]
  exact ⟨rfl, H6.out.2.1, H6.out.2.2⟩
set_option maxHeartbeats 2000000
set_option maxRecDepth 100000
theorem box_sp (s : St) (p : Ps) (W : World) : ∃ W0 W1, W.alloc (.cells #[.bool s.dead, .int .i64 s.h, .string ⟨s.own.toArray⟩] 129) = W0 /\ W0.alloc (.cells #[.int .i64 p.1, .int .i64 p.2] 25) = W1 /\ Below W.heap.size W W1 /\ W0.heap.size = W.heap.size + 1 /\ W1.heap.size = W.heap.size + 2 /\ SB W1 W.heap.size s /\ PB W1 W0.heap.size p := by
 refine ⟨_, _, rfl, rfl, ((Below.refl _ _).alloc (Nat.le_refl _) _).alloc (by simp) _, by simp, by simp, ?_, ?_⟩
 ·exact (Below.heap_alloc _ _ _ (by simp)).trans (heap_alloc_new W _)
 ·exact heap_alloc_new _ _
theorem SB.below {W W' : World} {b : Nat} {s : St} (h : SB W b s) (k : Below W.heap.size W W') : SB W' b s := (k.block b (S.lt_of h)).trans h
theorem PB.below {W W' : World} {b : Nat} {p : Ps} (h : PB W b p) (k : Below W.heap.size W W') : PB W' b p := (k.block b (S.lt_of h)).trans h
theorem EW.below {W W' : World} {g : Nat} {mv av : Value} {w : Wk} (h : EW W g mv av w) (k : Below W.heap.size W W') : EW W' g mv av w := (k.block g (S.lt_of h)).trans h
theorem lv_own (s : St) (p : Ps) (w : Wk) (g : Nat) (mv av : Value) (W : World) (h : EW W g mv av w) (ho : s.own.isEmpty = false) :
  Calls Tryz.prog 68 #[.pointer (some ⟨g, 0, none⟩), .agg (stc s).toArray, .agg #[.int .i64 p.1, .int .i64 p.2]] W (EU W g mv av (leave s p w)) := by
 obtain ⟨W0, W1, hW0, hW1, hB, hs0, hs1, k1, k2⟩ := box_sp s p W
 have hE : EW W1 g mv av w := (hB.block g h.lt).trans h
 have hgl := h.lt
 have n1 : W.heap.size ≠ g := by omega
 have n2 : W0.heap.size ≠ g := by omega
 obtain ⟨x0, x1, x2⟩ := k1.cells
 obtain ⟨y0, y1⟩ := k2.cells
 have H1 := hid (And.intro k1 (And.intro k2 (And.intro hE hB)))
 have HN := hid (And.intro n1 n2)
 clear k1 k2 hE hB n1 n2 hs0 hs1 h hgl
 unfold stc
 have HR : Y.Hd (leave s p w = .error (152, p)) := ⟨by unfold leave; rw [if_neg (by intro c; rw [c] at ho; cases ho)]⟩
 generalize leave s p w = R at *
 have hc := must_false 152 p W1
 go_enter Tryz.func68, Tryz.ntmps68
 go_wp2_with fail
 refine hc.mono ?_
 rintro e w1 ⟨rfl, hb⟩
 refine ⟨rfl, ?_⟩
 rw [HR.out]
 exact ⟨rfl, (Gw.of H1.out.2.2.2).trans (Gw.of hb)⟩
theorem lv_never (s : St) (p : Ps) (w : Wk) (g : Nat) (mv av : Value) (W : World) (h : EW W g mv av w) (ho : s.own.isEmpty = true) (hnv : w.nv = true) :
  Calls Tryz.prog 68 #[.pointer (some ⟨g, 0, none⟩), .agg (stc s).toArray, .agg #[.int .i64 p.1, .int .i64 p.2]] W (EU W g mv av (leave s p w)) := by
 obtain ⟨W0, W1, hW0, hW1, hB, hs0, hs1, k1, k2⟩ := box_sp s p W
 have hE : EW W1 g mv av w := (hB.block g h.lt).trans h
 have hgl := h.lt
 have n1 : W.heap.size ≠ g := by omega
 have n2 : W0.heap.size ≠ g := by omega
 obtain ⟨x0, x1, x2⟩ := k1.cells
 obtain ⟨y0, y1⟩ := k2.cells
 have H1 := hid (And.intro k1 (And.intro k2 (And.intro hE hB)))
 have HN := hid (And.intro n1 n2)
 clear k1 k2 hE hB n1 n2 hs0 hs1 h hgl
 unfold stc
 have HR : Y.Hd (leave s p w = .ok { w with nv := false, lf := s.h }) := ⟨by unfold leave; rw [if_pos (by simpa using ho), if_pos (Or.inl hnv)]⟩
 generalize leave s p w = R at *
 have hc := must_true 152 p W1
 go_enter Tryz.func68, Tryz.ntmps68
 go_wp2_with fail
 refine hc.mono ?_
 rintro e w1 ⟨rfl, hb⟩
 clear hc x0 x1 x2 y0 y1 hW0 hW1 ho
 have H2 := hid (And.intro (H1.out.1.below hb) (And.intro (H1.out.2.1.below hb) (And.intro (H1.out.2.2.1.below hb) (H1.out.2.2.2.trans (hb.mono H1.out.2.2.2.size)))))
 clear hb H1
 have HK : Y.Hd (∀ wz, Below w1.heap.size w1 wz -> (fun wz : World => wz.cell? ⟨g, 6, none⟩ = some (.bool true) /\ wz.cell? ⟨g, 7, none⟩ = some (.int .i64 w.lf) /\ wz.cell? ⟨W.heap.size, 1, none⟩ = some (.int .i64 s.h) /\ wz.cell? ⟨W0.heap.size, 0, none⟩ = some (.int .i64 p.1) /\ wz.cell? ⟨W0.heap.size, 1, none⟩ = some (.int .i64 p.2)) wz) := ⟨fun wz hz => by
  obtain ⟨_, a1, _⟩ := (H2.out.1.below hz).cells
  obtain ⟨b0, b1⟩ := (H2.out.2.1.below hz).cells
  obtain ⟨_, _, _, _, _, _, c6, c7⟩ := (H2.out.2.2.1.below hz).cells
  try rw [hnv] at c6
  exact ⟨c6, c7, a1, b0, b1⟩⟩
 go_upto_region 2 with fail
 refine wp_region_drop [] (S := fun wz : World => wz.cell? ⟨g, 6, none⟩ = some (.bool true) /\ wz.cell? ⟨g, 7, none⟩ = some (.int .i64 w.lf) /\ wz.cell? ⟨W.heap.size, 1, none⟩ = some (.int .i64 s.h) /\ wz.cell? ⟨W0.heap.size, 0, none⟩ = some (.int .i64 p.1) /\ wz.cell? ⟨W0.heap.size, 1, none⟩ = some (.int .i64 p.2)) (by kernel_rfl) (HK.out w1.drew (Below.refl _ _).drew) (fun hHeld => ?_)
 have HB0 := hid (Below.refl w1.heap.size w1).drew
 generalize w1.drew = y0 at *
 refine E.zP (is := [0, 1, 2, 3]) ?_
 iterate 4
  refine E.yP (v := ?_) rfl (by kernel_rfl) (fun c a w h => h) (by rfl) ?_ (fun _ => hHeld) ?_
  rotate_left
  ·(intro w hSw; clear hSw; go_simp; try with_reducible rfl)
  simp only [E.pts]
 refine E.eP ?_
 refine E.xT 4 (v := ?_) rfl (by kernel_rfl) (fun c a w h => h) (by rfl) ?_ hHeld ?_
 rotate_left
 ·(intro w hSw; (try dsimp only at hSw); go_simp; try with_reducible rfl)
 simp only [E.pts]
 refine E.xP 5 (v := ?_) rfl (by kernel_rfl) (fun c a w h => h) (by rfl) ?_ (fun _ => hHeld) ?_
 rotate_left
 ·(intro w hSw; clear hSw; go_simp; try with_reducible rfl)
 simp only [E.pts]
 refine wpD_takeP (i := 6) (v := undef) rfl (by kernel_rfl) (by kernel_rfl) (by kernel_rfl) (by kernel_rfl) (fun c a w h => h) (Or.inr ⟨by rfl, rfl⟩) (fun _ => hHeld) ?_
 simp only [E.pts]
 refine wpD_takeP (i := 7) (v := undef) rfl (by kernel_rfl) (by kernel_rfl) (by kernel_rfl) (by kernel_rfl) (fun c a w h => h) (Or.inr ⟨by rfl, rfl⟩) (fun _ => hHeld) ?_
 simp only [E.pts]
 refine wpD_takeP (i := 8) (v := undef) rfl (by kernel_rfl) (by kernel_rfl) (by kernel_rfl) (by kernel_rfl) (fun c a w h => h) (Or.inr ⟨by rfl, rfl⟩) (fun _ => hHeld) ?_
 simp only [E.pts]
 refine wpD_takeP (i := 9) (v := undef) rfl (by kernel_rfl) (by kernel_rfl) (by kernel_rfl) (by kernel_rfl) (fun c a w h => h) (Or.inr ⟨by rfl, rfl⟩) (fun _ => hHeld) ?_
 simp only [E.pts]
 refine wpD_takeP (i := 10) (v := undef) rfl (by kernel_rfl) (by kernel_rfl) (by kernel_rfl) (by kernel_rfl) (fun c a w h => h) (Or.inr ⟨by rfl, rfl⟩) (fun _ => hHeld) ?_
 simp only [E.pts]
 refine wpD_takeP (i := 11) (v := undef) rfl (by kernel_rfl) (by kernel_rfl) (by kernel_rfl) (by kernel_rfl) (fun c a w h => h) (Or.inr ⟨by rfl, rfl⟩) (fun _ => hHeld) ?_
 simp only [E.pts]
 refine wpD_takeP (i := 12) (v := undef) rfl (by kernel_rfl) (by kernel_rfl) (by kernel_rfl) (by kernel_rfl) (fun c a w h => h) (Or.inr ⟨by rfl, rfl⟩) (fun _ => hHeld) ?_
 simp only [E.pts]
 refine E.xP 13 (v := ?_) rfl (by kernel_rfl) (fun c a w h => h) (by rfl) ?_ (fun _ => hHeld) ?_
 rotate_left
 ·(intro w hSw; clear hSw; go_simp; try with_reducible rfl)
 simp only [E.pts]
 refine E.xT 14 (v := ?_) rfl (by kernel_rfl) (fun c a w h => h) (by rfl) ?_ hHeld ?_
 rotate_left
 ·(intro w hSw; (try dsimp only at hSw); go_simp; try with_reducible rfl)
 simp only [E.pts]
 refine wpD_ready (rs := [15]) (by kernel_rfl) (by simp) ?_
 refine AllD.cons rfl (fun K hK => ?_) AllD.nil
 go_simp
 refine (must_true 150 p y0).mono ?_
 rintro e y1 ⟨rfl, hb⟩
 have HB1 := hid (HB0.out.trans (hb.mono HB0.out.size))
 clear hb
 refine hK.out _ _ (HK.out _ HB1.out) (fun hHeld => ?_)
 clear hK K
 try simp only [E.pts]
 refine wpD_done (by kernel_rfl) ?_ _
 have H3 := hid (And.intro (H2.out.1.below HB1.out) (And.intro (H2.out.2.2.1.below HB1.out) (H2.out.2.2.2.trans (HB1.out.mono H2.out.2.2.2.size))))
 clear H2 HB0 HB1 HK hHeld
 go_upto_region 3 with fail
 have t1 : (fun wz : World => wz.cell? ⟨W.heap.size, 1, none⟩ = some (.int .i64 s.h)) y1.drew := H3.out.1.cells.2.1
 refine wp_region_drop [] (S := fun wz : World => wz.cell? ⟨W.heap.size, 1, none⟩ = some (.int .i64 s.h)) (by kernel_rfl) t1 (fun hHeld => ?_)
 have H4 : Y.Hd (EW y1.drew g mv av w /\ SB y1.drew W.heap.size s /\ Below W.heap.size W y1.drew) := ⟨H3.out.2.1, H3.out.1, H3.out.2.2.drew⟩
 generalize y1.drew = y2 at *
 clear t1
 refine E.zP (is := [0, 1, 2]) ?_
 iterate 3
  refine E.yP (v := ?_) rfl (by kernel_rfl) (fun c a w h => h) (by rfl) ?_ (fun _ => hHeld) ?_
  rotate_left
  ·(intro w hSw; clear hSw; go_simp; try with_reducible rfl)
  simp only [E.pts]
 refine E.eP ?_
 refine E.xT 3 (v := ?_) rfl (by kernel_rfl) (fun c a w h => h) (by rfl) ?_ hHeld ?_
 rotate_left
 ·(intro w hSw; (try dsimp only at hSw); go_simp; try with_reducible rfl)
 simp only [E.pts]
 refine E.zP (is := [4, 5, 6]) ?_
 iterate 3
  refine E.yP (v := ?_) rfl (by kernel_rfl) (fun c a w h => h) (by rfl) ?_ (fun _ => hHeld) ?_
  rotate_left
  ·(intro w hSw; clear hSw; go_simp; try with_reducible rfl)
  simp only [E.pts]
 refine E.eP ?_
 have x6 := H4.out.1.cells.2.2.2.2.2.2.1
 have z6 := H4.out.1.fro 6
 refine wpD_ready (rs := [7]) (by kernel_rfl) (by simp) ?_
 refine AllD.cons rfl (fun K hK => ?_) AllD.nil
 go_simp
 refine hK.out _ _ (show (y2.setCell ⟨g, 6, none⟩ (.bool false)).cell? ⟨W.heap.size, 1, none⟩ = some (.int .i64 s.h) from (show SB (y2.setCell ⟨g, 6, none⟩ (.bool false)) W.heap.size s from (S.setCell_other y2 g 6 W.heap.size (.bool false) HN.out.1).trans H4.out.2.1).cells.2.1) (fun hHeld => ?_)
 clear hK K
 try simp only [E.pts]
 have e1 := S.setCell_heap y2 g 6 _ 112 (.bool false) H4.out.1
 have x7 := S.cell_of _ g 7 _ 112 _ e1 rfl
 have z7 := S.frozen_of _ g 7 _ 112 e1
 have HE := hid e1
 clear e1 x6 z6
 refine E.zP (is := [8, 9]) ?_
 iterate 2
  refine E.yP (v := ?_) rfl (by kernel_rfl) (fun c a w h => h) (by rfl) ?_ (fun _ => hHeld) ?_
  rotate_left
  ·(intro w hSw; clear hSw; go_simp; try with_reducible rfl)
  simp only [E.pts]
 refine E.eP ?_
 refine wpD_ready (rs := [10]) (by kernel_rfl) (by simp) ?_
 refine AllD.cons rfl (fun K hK => ?_) AllD.nil
 go_simp
 have hSB : SB ((y2.setCell ⟨g, 6, none⟩ (.bool false)).setCell ⟨g, 7, none⟩ (.int .i64 s.h)) W.heap.size s := (S.setCell_other _ g 7 W.heap.size _ HN.out.1).trans ((S.setCell_other y2 g 6 W.heap.size (.bool false) HN.out.1).trans H4.out.2.1)
 refine hK.out _ _ hSB.cells.2.1 (fun hHeld => ?_)
 clear hK K
 try simp only [E.pts]
 refine wpD_done (by kernel_rfl) ?_ _
 go_end0
 rw [HR.out]
 have hE : EW ((y2.setCell ⟨g, 6, none⟩ (.bool false)).setCell ⟨g, 7, none⟩ (.int .i64 s.h)) g mv av { w with nv := false, lf := s.h } := S.setCell_heap _ g 7 _ 112 (.int .i64 s.h) HE.out
 exact ⟨rfl, hE, (((Gw.of H4.out.2.2).setG 6 _).setG 7 _)⟩
theorem lv_same (s : St) (p : Ps) (w : Wk) (g : Nat) (mv av : Value) (W : World) (h : EW W g mv av w) (ho : s.own.isEmpty = true) (hnv : w.nv = false) (hl : (w.lf == s.h) = true) :
  Calls Tryz.prog 68 #[.pointer (some ⟨g, 0, none⟩), .agg (stc s).toArray, .agg #[.int .i64 p.1, .int .i64 p.2]] W (EU W g mv av (leave s p w)) := by
 obtain ⟨W0, W1, hW0, hW1, hB, hs0, hs1, k1, k2⟩ := box_sp s p W
 have hE : EW W1 g mv av w := (hB.block g h.lt).trans h
 have hgl := h.lt
 have n1 : W.heap.size ≠ g := by omega
 have n2 : W0.heap.size ≠ g := by omega
 obtain ⟨x0, x1, x2⟩ := k1.cells
 obtain ⟨y0, y1⟩ := k2.cells
 have H1 := hid (And.intro k1 (And.intro k2 (And.intro hE hB)))
 have HN := hid (And.intro n1 n2)
 clear k1 k2 hE hB n1 n2 hs0 hs1 h hgl
 unfold stc
 have HR : Y.Hd (leave s p w = .ok { w with nv := false, lf := s.h }) := ⟨by unfold leave; rw [if_pos (by simpa using ho), if_pos (Or.inr (by simpa using hl))]⟩
 generalize leave s p w = R at *
 have hc := must_true 152 p W1
 go_enter Tryz.func68, Tryz.ntmps68
 go_wp2_with fail
 refine hc.mono ?_
 rintro e w1 ⟨rfl, hb⟩
 clear hc x0 x1 x2 y0 y1 hW0 hW1 ho
 have H2 := hid (And.intro (H1.out.1.below hb) (And.intro (H1.out.2.1.below hb) (And.intro (H1.out.2.2.1.below hb) (H1.out.2.2.2.trans (hb.mono H1.out.2.2.2.size)))))
 clear hb H1
 have HK : Y.Hd (∀ wz, Below w1.heap.size w1 wz -> (fun wz : World => wz.cell? ⟨g, 6, none⟩ = some (.bool false) /\ wz.cell? ⟨g, 7, none⟩ = some (.int .i64 w.lf) /\ wz.cell? ⟨W.heap.size, 1, none⟩ = some (.int .i64 s.h) /\ wz.cell? ⟨W0.heap.size, 0, none⟩ = some (.int .i64 p.1) /\ wz.cell? ⟨W0.heap.size, 1, none⟩ = some (.int .i64 p.2)) wz) := ⟨fun wz hz => by
  obtain ⟨_, a1, _⟩ := (H2.out.1.below hz).cells
  obtain ⟨b0, b1⟩ := (H2.out.2.1.below hz).cells
  obtain ⟨_, _, _, _, _, _, c6, c7⟩ := (H2.out.2.2.1.below hz).cells
  try rw [hnv] at c6
  exact ⟨c6, c7, a1, b0, b1⟩⟩
 go_upto_region 2 with fail
 refine wp_region_drop [] (S := fun wz : World => wz.cell? ⟨g, 6, none⟩ = some (.bool false) /\ wz.cell? ⟨g, 7, none⟩ = some (.int .i64 w.lf) /\ wz.cell? ⟨W.heap.size, 1, none⟩ = some (.int .i64 s.h) /\ wz.cell? ⟨W0.heap.size, 0, none⟩ = some (.int .i64 p.1) /\ wz.cell? ⟨W0.heap.size, 1, none⟩ = some (.int .i64 p.2)) (by kernel_rfl) (HK.out w1.drew (Below.refl _ _).drew) (fun hHeld => ?_)
 have HB0 := hid (Below.refl w1.heap.size w1).drew
 generalize w1.drew = y0 at *
 refine E.zP (is := [0, 1, 2, 3]) ?_
 iterate 4
  refine E.yP (v := ?_) rfl (by kernel_rfl) (fun c a w h => h) (by rfl) ?_ (fun _ => hHeld) ?_
  rotate_left
  ·(intro w hSw; clear hSw; go_simp; try with_reducible rfl)
  simp only [E.pts]
 refine E.eP ?_
 refine E.xT 4 (v := ?_) rfl (by kernel_rfl) (fun c a w h => h) (by rfl) ?_ hHeld ?_
 rotate_left
 ·(intro w hSw; (try dsimp only at hSw); go_simp; try with_reducible rfl)
 simp only [E.pts]
 refine E.zP (is := [5, 6, 7, 8]) ?_
 iterate 4
  refine E.yP (v := ?_) rfl (by kernel_rfl) (fun c a w h => h) (by rfl) ?_ (fun _ => hHeld) ?_
  rotate_left
  ·(intro w hSw; clear hSw; go_simp; try with_reducible rfl)
  simp only [E.pts]
 refine E.eP ?_
 refine E.xT 9 (v := ?_) rfl (by kernel_rfl) (fun c a w h => h) (by rfl) ?_ hHeld ?_
 rotate_left
 ·(intro w hSw; (try dsimp only at hSw); go_simp; try with_reducible rfl)
 simp only [E.pts]
 refine E.xP 10 (v := ?_) rfl (by kernel_rfl) (fun c a w h => h) (by rfl) ?_ (fun _ => hHeld) ?_
 rotate_left
 ·(intro w hSw; clear hSw; go_simp; try with_reducible rfl)
 simp only [E.pts]
 refine E.xT 11 (v := ?_) rfl (by kernel_rfl) (fun c a w h => h) (by rfl) ?_ hHeld ?_
 rotate_left
 ·(intro w hSw; (try dsimp only at hSw); go_simp; try with_reducible rfl)
 simp only [E.pts]
 refine E.zP (is := [12, 13]) ?_
 iterate 2
  refine E.yP (v := ?_) rfl (by kernel_rfl) (fun c a w h => h) (by rfl) ?_ (fun _ => hHeld) ?_
  rotate_left
  ·(intro w hSw; clear hSw; go_simp; try with_reducible rfl)
  simp only [E.pts]
 refine E.eP ?_
 refine E.xT 14 (v := ?_) rfl (by kernel_rfl) (fun c a w h => h) (by rfl) ?_ hHeld ?_
 rotate_left
 ·(intro w hSw; (try dsimp only at hSw); go_simp; try with_reducible rfl)
 simp only [E.pts]
 refine wpD_ready (rs := [15]) (by kernel_rfl) (by simp) ?_
 refine AllD.cons rfl (fun K hK => ?_) AllD.nil
 go_simp
 refine (must_true 150 p y0).mono ?_
 rintro e y1 ⟨rfl, hb⟩
 have HB1 := hid (HB0.out.trans (hb.mono HB0.out.size))
 clear hb
 refine hK.out _ _ (HK.out _ HB1.out) (fun hHeld => ?_)
 clear hK K
 try simp only [E.pts]
 refine wpD_done (by kernel_rfl) ?_ _
 clear hl
 have H3 := hid (And.intro (H2.out.1.below HB1.out) (And.intro (H2.out.2.2.1.below HB1.out) (H2.out.2.2.2.trans (HB1.out.mono H2.out.2.2.2.size))))
 clear H2 HB0 HB1 HK hHeld
 go_upto_region 3 with fail
 have t1 : (fun wz : World => wz.cell? ⟨W.heap.size, 1, none⟩ = some (.int .i64 s.h)) y1.drew := H3.out.1.cells.2.1
 refine wp_region_drop [] (S := fun wz : World => wz.cell? ⟨W.heap.size, 1, none⟩ = some (.int .i64 s.h)) (by kernel_rfl) t1 (fun hHeld => ?_)
 have H4 : Y.Hd (EW y1.drew g mv av w /\ SB y1.drew W.heap.size s /\ Below W.heap.size W y1.drew) := ⟨H3.out.2.1, H3.out.1, H3.out.2.2.drew⟩
 generalize y1.drew = y2 at *
 clear t1
 refine E.zP (is := [0, 1, 2]) ?_
 iterate 3
  refine E.yP (v := ?_) rfl (by kernel_rfl) (fun c a w h => h) (by rfl) ?_ (fun _ => hHeld) ?_
  rotate_left
  ·(intro w hSw; clear hSw; go_simp; try with_reducible rfl)
  simp only [E.pts]
 refine E.eP ?_
 refine E.xT 3 (v := ?_) rfl (by kernel_rfl) (fun c a w h => h) (by rfl) ?_ hHeld ?_
 rotate_left
 ·(intro w hSw; (try dsimp only at hSw); go_simp; try with_reducible rfl)
 simp only [E.pts]
 refine E.zP (is := [4, 5, 6]) ?_
 iterate 3
  refine E.yP (v := ?_) rfl (by kernel_rfl) (fun c a w h => h) (by rfl) ?_ (fun _ => hHeld) ?_
  rotate_left
  ·(intro w hSw; clear hSw; go_simp; try with_reducible rfl)
  simp only [E.pts]
 refine E.eP ?_
 have x6 := H4.out.1.cells.2.2.2.2.2.2.1
 have z6 := H4.out.1.fro 6
 refine wpD_ready (rs := [7]) (by kernel_rfl) (by simp) ?_
 refine AllD.cons rfl (fun K hK => ?_) AllD.nil
 go_simp
 refine hK.out _ _ (show (y2.setCell ⟨g, 6, none⟩ (.bool false)).cell? ⟨W.heap.size, 1, none⟩ = some (.int .i64 s.h) from (show SB (y2.setCell ⟨g, 6, none⟩ (.bool false)) W.heap.size s from (S.setCell_other y2 g 6 W.heap.size (.bool false) HN.out.1).trans H4.out.2.1).cells.2.1) (fun hHeld => ?_)
 clear hK K
 try simp only [E.pts]
 have e1 := S.setCell_heap y2 g 6 _ 112 (.bool false) H4.out.1
 have x7 := S.cell_of _ g 7 _ 112 _ e1 rfl
 have z7 := S.frozen_of _ g 7 _ 112 e1
 have HE := hid e1
 clear e1 x6 z6
 refine E.zP (is := [8, 9]) ?_
 iterate 2
  refine E.yP (v := ?_) rfl (by kernel_rfl) (fun c a w h => h) (by rfl) ?_ (fun _ => hHeld) ?_
  rotate_left
  ·(intro w hSw; clear hSw; go_simp; try with_reducible rfl)
  simp only [E.pts]
 refine E.eP ?_
 refine wpD_ready (rs := [10]) (by kernel_rfl) (by simp) ?_
 refine AllD.cons rfl (fun K hK => ?_) AllD.nil
 go_simp
 have hSB : SB ((y2.setCell ⟨g, 6, none⟩ (.bool false)).setCell ⟨g, 7, none⟩ (.int .i64 s.h)) W.heap.size s := (S.setCell_other _ g 7 W.heap.size _ HN.out.1).trans ((S.setCell_other y2 g 6 W.heap.size (.bool false) HN.out.1).trans H4.out.2.1)
 refine hK.out _ _ hSB.cells.2.1 (fun hHeld => ?_)
 clear hK K
 try simp only [E.pts]
 refine wpD_done (by kernel_rfl) ?_ _
 go_end0
 rw [HR.out]
 have hE : EW ((y2.setCell ⟨g, 6, none⟩ (.bool false)).setCell ⟨g, 7, none⟩ (.int .i64 s.h)) g mv av { w with nv := false, lf := s.h } := S.setCell_heap _ g 7 _ 112 (.int .i64 s.h) HE.out
 exact ⟨rfl, hE, (((Gw.of H4.out.2.2).setG 6 _).setG 7 _)⟩
theorem lv_join (s : St) (p : Ps) (w : Wk) (g : Nat) (mv av : Value) (W : World) (h : EW W g mv av w) (ho : s.own.isEmpty = true) (hnv : w.nv = false) (hl : (w.lf == s.h) = false) :
  Calls Tryz.prog 68 #[.pointer (some ⟨g, 0, none⟩), .agg (stc s).toArray, .agg #[.int .i64 p.1, .int .i64 p.2]] W (EU W g mv av (leave s p w)) := by
 obtain ⟨W0, W1, hW0, hW1, hB, hs0, hs1, k1, k2⟩ := box_sp s p W
 have hE : EW W1 g mv av w := (hB.block g h.lt).trans h
 have hgl := h.lt
 have n1 : W.heap.size ≠ g := by omega
 have n2 : W0.heap.size ≠ g := by omega
 obtain ⟨x0, x1, x2⟩ := k1.cells
 obtain ⟨y0, y1⟩ := k2.cells
 have H1 := hid (And.intro k1 (And.intro k2 (And.intro hE hB)))
 have HN := hid (And.intro n1 n2)
 clear k1 k2 hE hB n1 n2 hs0 hs1 h hgl
 unfold stc
 have HR : Y.Hd (leave s p w = .error (150, p)) := ⟨by unfold leave; rw [if_pos (by simpa using ho), if_neg (fun c => by rcases c with c | c <;> simp_all)]⟩
 generalize leave s p w = R at *
 have hc := must_true 152 p W1
 go_enter Tryz.func68, Tryz.ntmps68
 go_wp2_with fail
 refine hc.mono ?_
 rintro e w1 ⟨rfl, hb⟩
 clear hc x0 x1 x2 y0 y1 hW0 hW1 ho
 have H2 := hid (And.intro (H1.out.1.below hb) (And.intro (H1.out.2.1.below hb) (And.intro (H1.out.2.2.1.below hb) (H1.out.2.2.2.trans (hb.mono H1.out.2.2.2.size)))))
 clear hb H1
 have HK : Y.Hd (∀ wz, Below w1.heap.size w1 wz -> (fun wz : World => wz.cell? ⟨g, 6, none⟩ = some (.bool false) /\ wz.cell? ⟨g, 7, none⟩ = some (.int .i64 w.lf) /\ wz.cell? ⟨W.heap.size, 1, none⟩ = some (.int .i64 s.h) /\ wz.cell? ⟨W0.heap.size, 0, none⟩ = some (.int .i64 p.1) /\ wz.cell? ⟨W0.heap.size, 1, none⟩ = some (.int .i64 p.2)) wz) := ⟨fun wz hz => by
  obtain ⟨_, a1, _⟩ := (H2.out.1.below hz).cells
  obtain ⟨b0, b1⟩ := (H2.out.2.1.below hz).cells
  obtain ⟨_, _, _, _, _, _, c6, c7⟩ := (H2.out.2.2.1.below hz).cells
  try rw [hnv] at c6
  exact ⟨c6, c7, a1, b0, b1⟩⟩
 go_upto_region 2 with fail
 refine wp_region_drop [] (S := fun wz : World => wz.cell? ⟨g, 6, none⟩ = some (.bool false) /\ wz.cell? ⟨g, 7, none⟩ = some (.int .i64 w.lf) /\ wz.cell? ⟨W.heap.size, 1, none⟩ = some (.int .i64 s.h) /\ wz.cell? ⟨W0.heap.size, 0, none⟩ = some (.int .i64 p.1) /\ wz.cell? ⟨W0.heap.size, 1, none⟩ = some (.int .i64 p.2)) (by kernel_rfl) (HK.out w1.drew (Below.refl _ _).drew) (fun hHeld => ?_)
 have HB0 := hid (Below.refl w1.heap.size w1).drew
 generalize w1.drew = y0 at *
 refine E.zP (is := [0, 1, 2, 3]) ?_
 iterate 4
  refine E.yP (v := ?_) rfl (by kernel_rfl) (fun c a w h => h) (by rfl) ?_ (fun _ => hHeld) ?_
  rotate_left
  ·(intro w hSw; clear hSw; go_simp; try with_reducible rfl)
  simp only [E.pts]
 refine E.eP ?_
 refine E.xT 4 (v := ?_) rfl (by kernel_rfl) (fun c a w h => h) (by rfl) ?_ hHeld ?_
 rotate_left
 ·(intro w hSw; (try dsimp only at hSw); go_simp; try with_reducible rfl)
 simp only [E.pts]
 refine E.zP (is := [5, 6, 7, 8]) ?_
 iterate 4
  refine E.yP (v := ?_) rfl (by kernel_rfl) (fun c a w h => h) (by rfl) ?_ (fun _ => hHeld) ?_
  rotate_left
  ·(intro w hSw; clear hSw; go_simp; try with_reducible rfl)
  simp only [E.pts]
 refine E.eP ?_
 refine E.xT 9 (v := ?_) rfl (by kernel_rfl) (fun c a w h => h) (by rfl) ?_ hHeld ?_
 rotate_left
 ·(intro w hSw; (try dsimp only at hSw); go_simp; try with_reducible rfl)
 simp only [E.pts]
 refine E.xP 10 (v := ?_) rfl (by kernel_rfl) (fun c a w h => h) (by rfl) ?_ (fun _ => hHeld) ?_
 rotate_left
 ·(intro w hSw; clear hSw; go_simp; try with_reducible rfl)
 simp only [E.pts]
 refine E.xT 11 (v := ?_) rfl (by kernel_rfl) (fun c a w h => h) (by rfl) ?_ hHeld ?_
 rotate_left
 ·(intro w hSw; (try dsimp only at hSw); go_simp; try with_reducible rfl)
 simp only [E.pts]
 refine E.zP (is := [12, 13]) ?_
 iterate 2
  refine E.yP (v := ?_) rfl (by kernel_rfl) (fun c a w h => h) (by rfl) ?_ (fun _ => hHeld) ?_
  rotate_left
  ·(intro w hSw; clear hSw; go_simp; try with_reducible rfl)
  simp only [E.pts]
 refine E.eP ?_
 refine E.xT 14 (v := ?_) rfl (by kernel_rfl) (fun c a w h => h) (by rfl) ?_ hHeld ?_
 rotate_left
 ·(intro w hSw; (try dsimp only at hSw); go_simp; try with_reducible rfl)
 simp only [E.pts]
 refine wpD_ready (rs := [15]) (by kernel_rfl) (by simp) ?_
 refine AllD.cons rfl (fun K hK => ?_) AllD.nil
 go_simp
 refine (must_false 150 p y0).mono ?_
 rintro e y1 ⟨rfl, hb⟩
 refine ⟨rfl, ?_⟩
 rw [HR.out]
 exact ⟨rfl, (Gw.of H2.out.2.2.2).trans ((Gw.of HB0.out).trans (Gw.of hb))⟩
theorem leave_any (s : St) (p : Ps) (w : Wk) (g : Nat) (mv av : Value) (W : World) (h : EW W g mv av w) :
  Calls Tryz.prog 68 #[.pointer (some ⟨g, 0, none⟩), .agg (stc s).toArray, .agg #[.int .i64 p.1, .int .i64 p.2]] W (EU W g mv av (leave s p w)) := by
 cases ho : s.own.isEmpty with
 | true =>
  cases hnv : w.nv with
  | true => exact lv_never s p w g mv av W h ho hnv
  | false =>
   cases hl : (w.lf == s.h) with
   | true => exact lv_same s p w g mv av W h ho hnv hl
   | false => exact lv_join s p w g mv av W h ho hnv hl
 | false => exact lv_own s p w g mv av W h ho
set_option maxHeartbeats 2000000
set_option maxRecDepth 100000
theorem list_beq (a b : List UInt8) : ((⟨a.toArray⟩ : ByteArray).toList == (⟨b.toArray⟩ : ByteArray).toList) = decide (a = b) := by
 rw [ByteArray.toList_eq, ByteArray.toList_eq]
 by_cases h : a = b
 ·subst h; simp
 ·rw [decide_eq_false h, Bool.eq_false_iff]; intro c; exact h (by simpa using c)
theorem stF : ∃ pk : String, Tryz.prog.underlying 129 = some (.struct (Tryz.prog.fieldsOf 129)) /\ Tryz.prog.fieldsOf 129 = #[⟨ "dead", 4, 0, false, "", pk, 0⟩, ⟨ "height", 3, 1, false, "", pk, 8⟩, ⟨ "own", 9, 2, false, "", pk, 16⟩] /\ Tryz.prog.stoodInHeld 129 = false /\ Tryz.prog.cellsOf 3 = 1 /\ Tryz.prog.cellsOf 4 = 1 /\ Tryz.prog.cellsOf 9 = 1 :=
 ⟨((Tryz.prog.fieldsOf 129).getD 0 ⟨ "", 0, 0, false, "", "", 0⟩).pkgPath, by kernel_rfl, by kernel_rfl, by kernel_rfl, by kernel_rfl, by kernel_rfl, by kernel_rfl⟩
theorem eql_st (W : World) (a b : St) : (binOp .eql 129 (.agg #[.bool a.dead, .int .i64 a.h, .string ⟨a.own.toArray⟩]) (.agg #[.bool b.dead, .int .i64 b.h, .string ⟨b.own.toArray⟩])).run Tryz.prog W = .ok (.bool (same a b)) W := by
 obtain ⟨pk, hs, hf, hp, k3, k4, k9⟩ := stF
 rw [run_eql_struct, run_equalIn_agg W 9999 _ _ _ hs hp, hf]
 unfold same
 rw [<- list_beq]
 cases h1 : (a.dead == b.dead) <;> cases h2 : (a.h == b.h) <;> simp [go_sem, Tryz.underlying3, Tryz.underlying4, Tryz.underlying9, k3, k4, k9, Result.andThen, h1, h2]
 all_goals (by_cases h3 : a.own = b.own <;> simp [h3])
theorem box_ssp (a b : St) (p : Ps) (W : World) : ∃ W0 W1 W2, W.alloc (.cells #[.bool a.dead, .int .i64 a.h, .string ⟨a.own.toArray⟩] 129) = W0 /\ W0.alloc (.cells #[.bool b.dead, .int .i64 b.h, .string ⟨b.own.toArray⟩] 129) = W1 /\ W1.alloc (.cells #[.int .i64 p.1, .int .i64 p.2] 25) = W2 /\ Below W.heap.size W W2 /\ SB W2 W.heap.size a /\ SB W2 W0.heap.size b /\ PB W2 W1.heap.size p := by
 refine ⟨_, _, _, rfl, rfl, rfl, (((Below.refl _ _).alloc (Nat.le_refl _) _).alloc (by simp) _).alloc (by simp; omega) _, ?_, ?_, ?_⟩
 ·exact (Below.heap_alloc _ _ _ (by simp; omega)).trans ((Below.heap_alloc _ _ _ (by simp)).trans (heap_alloc_new W _))
 ·exact (Below.heap_alloc _ _ _ (by simp)).trans (heap_alloc_new _ _)
 ·exact heap_alloc_new _ _
theorem bk_dead (a b : St) (p : Ps) (W : World) (hd : a.dead = true) (z : Bool) (hsm : same a b = z) :
  Calls Tryz.prog 115 #[.agg (stc a).toArray, .agg (stc b).toArray, .agg #[.int .i64 p.1, .int .i64 p.2]] W fun e w' => e = .returned (.tuple #[]) /\ Below W.heap.size W w' := by
 obtain ⟨W0, W1, W2, hW0, hW1, hW2, hB, k1, k2, k3⟩ := box_ssp a b p W
 have HK : Y.Hd (∀ wz, Below W2.heap.size W2 wz -> (fun wz : World => wz.cell? ⟨W.heap.size, 0, none⟩ = some (.bool true) /\ wz.cell? ⟨W.heap.size, 1, none⟩ = some (.int .i64 a.h) /\ wz.cell? ⟨W.heap.size, 2, none⟩ = some (.string ⟨a.own.toArray⟩) /\ wz.cell? ⟨W0.heap.size, 0, none⟩ = some (.bool b.dead) /\ wz.cell? ⟨W0.heap.size, 1, none⟩ = some (.int .i64 b.h) /\ wz.cell? ⟨W0.heap.size, 2, none⟩ = some (.string ⟨b.own.toArray⟩) /\ wz.cell? ⟨W1.heap.size, 0, none⟩ = some (.int .i64 p.1) /\ wz.cell? ⟨W1.heap.size, 1, none⟩ = some (.int .i64 p.2)) wz) := ⟨fun wz hz => by
  obtain ⟨a0, a1, a2⟩ := (k1.below hz).cells
  obtain ⟨b0, b1, b2⟩ := (k2.below hz).cells
  obtain ⟨p0, p1⟩ := (k3.below hz).cells
  rw [hd] at a0
  exact ⟨a0, a1, a2, b0, b1, b2, p0, p1⟩⟩
 have HB := hid hB
 have heq := fun W => eql_st W a b
 simp only [hsm] at heq
 rw [hd] at heq
 unfold stc
 rw [hd]
 rw [hd] at hW0
 clear k1 k2 k3 hB
 go_enter Tryz.func115, Tryz.ntmps115
 go_upto_region 1 with fail
 refine wp_region_drop [] (S := fun wz : World => wz.cell? ⟨W.heap.size, 0, none⟩ = some (.bool true) /\ wz.cell? ⟨W.heap.size, 1, none⟩ = some (.int .i64 a.h) /\ wz.cell? ⟨W.heap.size, 2, none⟩ = some (.string ⟨a.own.toArray⟩) /\ wz.cell? ⟨W0.heap.size, 0, none⟩ = some (.bool b.dead) /\ wz.cell? ⟨W0.heap.size, 1, none⟩ = some (.int .i64 b.h) /\ wz.cell? ⟨W0.heap.size, 2, none⟩ = some (.string ⟨b.own.toArray⟩) /\ wz.cell? ⟨W1.heap.size, 0, none⟩ = some (.int .i64 p.1) /\ wz.cell? ⟨W1.heap.size, 1, none⟩ = some (.int .i64 p.2)) (by kernel_rfl) (HK.out W2.drew (Below.refl _ _).drew) (fun hHeld => ?_)
 have HB0 := hid (Below.refl W2.heap.size W2).drew
 generalize W2.drew = y0 at *
 clear hW0 hW1 hW2
 refine E.xP 0 (v := ?_) rfl (by kernel_rfl) (fun c a w h => h) (by rfl) ?_ (fun _ => hHeld) ?_
 rotate_left
 ·(intro w hSw; clear hSw; go_simp; try with_reducible rfl)
 simp only [E.pts]
 refine E.xT 1 (v := ?_) rfl (by kernel_rfl) (fun c a w h => h) (by rfl) ?_ hHeld ?_
 rotate_left
 ·(intro w hSw; (try dsimp only at hSw); go_simp; try with_reducible rfl)
 simp only [E.pts]
 refine E.xP 2 (v := ?_) rfl (by kernel_rfl) (fun c a w h => h) (by rfl) ?_ (fun _ => hHeld) ?_
 rotate_left
 ·(intro w hSw; clear hSw; go_simp; try with_reducible rfl)
 simp only [E.pts]
 refine wpD_takeP (i := 3) (v := undef) rfl (by kernel_rfl) (by kernel_rfl) (by kernel_rfl) (by kernel_rfl) (fun c a w h => h) (Or.inr ⟨by rfl, rfl⟩) (fun _ => hHeld) ?_
 simp only [E.pts]
 refine wpD_takeP (i := 4) (v := undef) rfl (by kernel_rfl) (by kernel_rfl) (by kernel_rfl) (by kernel_rfl) (fun c a w h => h) (Or.inr ⟨by rfl, rfl⟩) (fun _ => hHeld) ?_
 simp only [E.pts]
 refine wpD_takeP (i := 5) (v := undef) rfl (by kernel_rfl) (by kernel_rfl) (by kernel_rfl) (by kernel_rfl) (fun c a w h => h) (Or.inr ⟨by rfl, rfl⟩) (fun _ => hHeld) ?_
 simp only [E.pts]
 refine E.xP 6 (v := ?_) rfl (by kernel_rfl) (fun c a w h => h) (by rfl) ?_ (fun _ => hHeld) ?_
 rotate_left
 ·(intro w hSw; clear hSw; go_simp; try with_reducible rfl)
 simp only [E.pts]
 refine E.xT 7 (v := ?_) rfl (by kernel_rfl) (fun c a w h => h) (by rfl) ?_ hHeld ?_
 rotate_left
 ·(intro w hSw; (try dsimp only at hSw); go_simp; try with_reducible rfl)
 simp only [E.pts]
 refine wpD_ready (rs := [8]) (by kernel_rfl) (by simp) ?_
 refine AllD.cons rfl (fun K hK => ?_) AllD.nil
 go_simp
 refine (must_true 151 p y0).mono ?_
 rintro e y1 ⟨rfl, hb⟩
 have HB1 := hid (HB0.out.trans (hb.mono HB0.out.size))
 clear hb
 refine hK.out _ _ (HK.out _ HB1.out) (fun hHeld => ?_)
 clear hK K
 try simp only [E.pts]
 refine wpD_done (by kernel_rfl) ?_ _
 go_end0
 exact ⟨rfl, HB.out.trans (HB1.out.mono HB.out.size)⟩
theorem bk_same (a b : St) (p : Ps) (W : World) (hd : a.dead = false) (hsm : same a b = true) :
  Calls Tryz.prog 115 #[.agg (stc a).toArray, .agg (stc b).toArray, .agg #[.int .i64 p.1, .int .i64 p.2]] W fun e w' => e = .returned (.tuple #[]) /\ Below W.heap.size W w' := by
 obtain ⟨W0, W1, W2, hW0, hW1, hW2, hB, k1, k2, k3⟩ := box_ssp a b p W
 have HK : Y.Hd (∀ wz, Below W2.heap.size W2 wz -> (fun wz : World => wz.cell? ⟨W.heap.size, 0, none⟩ = some (.bool false) /\ wz.cell? ⟨W.heap.size, 1, none⟩ = some (.int .i64 a.h) /\ wz.cell? ⟨W.heap.size, 2, none⟩ = some (.string ⟨a.own.toArray⟩) /\ wz.cell? ⟨W0.heap.size, 0, none⟩ = some (.bool b.dead) /\ wz.cell? ⟨W0.heap.size, 1, none⟩ = some (.int .i64 b.h) /\ wz.cell? ⟨W0.heap.size, 2, none⟩ = some (.string ⟨b.own.toArray⟩) /\ wz.cell? ⟨W1.heap.size, 0, none⟩ = some (.int .i64 p.1) /\ wz.cell? ⟨W1.heap.size, 1, none⟩ = some (.int .i64 p.2)) wz) := ⟨fun wz hz => by
  obtain ⟨a0, a1, a2⟩ := (k1.below hz).cells
  obtain ⟨b0, b1, b2⟩ := (k2.below hz).cells
  obtain ⟨p0, p1⟩ := (k3.below hz).cells
  rw [hd] at a0
  exact ⟨a0, a1, a2, b0, b1, b2, p0, p1⟩⟩
 have HB := hid hB
 have heq := fun W => eql_st W a b
 simp only [hsm] at heq
 rw [hd] at heq
 unfold stc
 rw [hd]
 rw [hd] at hW0
 clear k1 k2 k3 hB
 go_enter Tryz.func115, Tryz.ntmps115
 go_upto_region 1 with fail
 refine wp_region_drop [] (S := fun wz : World => wz.cell? ⟨W.heap.size, 0, none⟩ = some (.bool false) /\ wz.cell? ⟨W.heap.size, 1, none⟩ = some (.int .i64 a.h) /\ wz.cell? ⟨W.heap.size, 2, none⟩ = some (.string ⟨a.own.toArray⟩) /\ wz.cell? ⟨W0.heap.size, 0, none⟩ = some (.bool b.dead) /\ wz.cell? ⟨W0.heap.size, 1, none⟩ = some (.int .i64 b.h) /\ wz.cell? ⟨W0.heap.size, 2, none⟩ = some (.string ⟨b.own.toArray⟩) /\ wz.cell? ⟨W1.heap.size, 0, none⟩ = some (.int .i64 p.1) /\ wz.cell? ⟨W1.heap.size, 1, none⟩ = some (.int .i64 p.2)) (by kernel_rfl) (HK.out W2.drew (Below.refl _ _).drew) (fun hHeld => ?_)
 have HB0 := hid (Below.refl W2.heap.size W2).drew
 generalize W2.drew = y0 at *
 clear hW0 hW1 hW2
 refine E.xP 0 (v := ?_) rfl (by kernel_rfl) (fun c a w h => h) (by rfl) ?_ (fun _ => hHeld) ?_
 rotate_left
 ·(intro w hSw; clear hSw; go_simp; try with_reducible rfl)
 simp only [E.pts]
 refine E.xT 1 (v := ?_) rfl (by kernel_rfl) (fun c a w h => h) (by rfl) ?_ hHeld ?_
 rotate_left
 ·(intro w hSw; (try dsimp only at hSw); go_simp; try with_reducible rfl)
 simp only [E.pts]
 refine E.xP 2 (v := ?_) rfl (by kernel_rfl) (fun c a w h => h) (by rfl) ?_ (fun _ => hHeld) ?_
 rotate_left
 ·(intro w hSw; clear hSw; go_simp; try with_reducible rfl)
 simp only [E.pts]
 refine E.zT (is := [3, 4]) ?_
 iterate 2
  refine E.yT (v := ?_) rfl (by kernel_rfl) (fun c a w h => h) (by rfl) ?_ hHeld ?_
  rotate_left
  ·(intro w hSw; (try dsimp only at hSw); go_simp; try with_reducible rfl)
  simp only [E.pts]
 refine E.eT ?_
 refine E.zP (is := [5, 6]) ?_
 iterate 2
  refine E.yP (v := ?_) rfl (by kernel_rfl) (fun c a w h => h) (by rfl) ?_ (fun _ => hHeld) ?_
  rotate_left
  ·(intro w hSw; clear hSw; go_simp; try with_reducible rfl)
  simp only [E.pts]
 refine E.eP ?_
 refine E.xT 7 (v := ?_) rfl (by kernel_rfl) (fun c a w h => h) (by rfl) ?_ hHeld ?_
 rotate_left
 ·(intro w hSw; (try dsimp only at hSw); go_simp; try with_reducible rfl)
 simp only [E.pts]
 refine wpD_ready (rs := [8]) (by kernel_rfl) (by simp) ?_
 refine AllD.cons rfl (fun K hK => ?_) AllD.nil
 go_simp
 refine (must_true 151 p y0).mono ?_
 rintro e y1 ⟨rfl, hb⟩
 have HB1 := hid (HB0.out.trans (hb.mono HB0.out.size))
 clear hb
 refine hK.out _ _ (HK.out _ HB1.out) (fun hHeld => ?_)
 clear hK K
 try simp only [E.pts]
 refine wpD_done (by kernel_rfl) ?_ _
 go_end0
 exact ⟨rfl, HB.out.trans (HB1.out.mono HB.out.size)⟩
theorem bk_no (a b : St) (p : Ps) (W : World) (hd : a.dead = false) (hsm : same a b = false) :
  Calls Tryz.prog 115 #[.agg (stc a).toArray, .agg (stc b).toArray, .agg #[.int .i64 p.1, .int .i64 p.2]] W fun e w' => e = .panicked (flt (151, p)) /\ Below W.heap.size W w' := by
 obtain ⟨W0, W1, W2, hW0, hW1, hW2, hB, k1, k2, k3⟩ := box_ssp a b p W
 have HK : Y.Hd (∀ wz, Below W2.heap.size W2 wz -> (fun wz : World => wz.cell? ⟨W.heap.size, 0, none⟩ = some (.bool false) /\ wz.cell? ⟨W.heap.size, 1, none⟩ = some (.int .i64 a.h) /\ wz.cell? ⟨W.heap.size, 2, none⟩ = some (.string ⟨a.own.toArray⟩) /\ wz.cell? ⟨W0.heap.size, 0, none⟩ = some (.bool b.dead) /\ wz.cell? ⟨W0.heap.size, 1, none⟩ = some (.int .i64 b.h) /\ wz.cell? ⟨W0.heap.size, 2, none⟩ = some (.string ⟨b.own.toArray⟩) /\ wz.cell? ⟨W1.heap.size, 0, none⟩ = some (.int .i64 p.1) /\ wz.cell? ⟨W1.heap.size, 1, none⟩ = some (.int .i64 p.2)) wz) := ⟨fun wz hz => by
  obtain ⟨a0, a1, a2⟩ := (k1.below hz).cells
  obtain ⟨b0, b1, b2⟩ := (k2.below hz).cells
  obtain ⟨p0, p1⟩ := (k3.below hz).cells
  rw [hd] at a0
  exact ⟨a0, a1, a2, b0, b1, b2, p0, p1⟩⟩
 have HB := hid hB
 have heq := fun W => eql_st W a b
 simp only [hsm] at heq
 rw [hd] at heq
 unfold stc
 rw [hd]
 rw [hd] at hW0
 clear k1 k2 k3 hB
 go_enter Tryz.func115, Tryz.ntmps115
 go_upto_region 1 with fail
 refine wp_region_drop [] (S := fun wz : World => wz.cell? ⟨W.heap.size, 0, none⟩ = some (.bool false) /\ wz.cell? ⟨W.heap.size, 1, none⟩ = some (.int .i64 a.h) /\ wz.cell? ⟨W.heap.size, 2, none⟩ = some (.string ⟨a.own.toArray⟩) /\ wz.cell? ⟨W0.heap.size, 0, none⟩ = some (.bool b.dead) /\ wz.cell? ⟨W0.heap.size, 1, none⟩ = some (.int .i64 b.h) /\ wz.cell? ⟨W0.heap.size, 2, none⟩ = some (.string ⟨b.own.toArray⟩) /\ wz.cell? ⟨W1.heap.size, 0, none⟩ = some (.int .i64 p.1) /\ wz.cell? ⟨W1.heap.size, 1, none⟩ = some (.int .i64 p.2)) (by kernel_rfl) (HK.out W2.drew (Below.refl _ _).drew) (fun hHeld => ?_)
 have HB0 := hid (Below.refl W2.heap.size W2).drew
 generalize W2.drew = y0 at *
 clear hW0 hW1 hW2
 refine E.xP 0 (v := ?_) rfl (by kernel_rfl) (fun c a w h => h) (by rfl) ?_ (fun _ => hHeld) ?_
 rotate_left
 ·(intro w hSw; clear hSw; go_simp; try with_reducible rfl)
 simp only [E.pts]
 refine E.xT 1 (v := ?_) rfl (by kernel_rfl) (fun c a w h => h) (by rfl) ?_ hHeld ?_
 rotate_left
 ·(intro w hSw; (try dsimp only at hSw); go_simp; try with_reducible rfl)
 simp only [E.pts]
 refine E.xP 2 (v := ?_) rfl (by kernel_rfl) (fun c a w h => h) (by rfl) ?_ (fun _ => hHeld) ?_
 rotate_left
 ·(intro w hSw; clear hSw; go_simp; try with_reducible rfl)
 simp only [E.pts]
 refine E.zT (is := [3, 4]) ?_
 iterate 2
  refine E.yT (v := ?_) rfl (by kernel_rfl) (fun c a w h => h) (by rfl) ?_ hHeld ?_
  rotate_left
  ·(intro w hSw; (try dsimp only at hSw); go_simp; try with_reducible rfl)
  simp only [E.pts]
 refine E.eT ?_
 refine E.zP (is := [5, 6]) ?_
 iterate 2
  refine E.yP (v := ?_) rfl (by kernel_rfl) (fun c a w h => h) (by rfl) ?_ (fun _ => hHeld) ?_
  rotate_left
  ·(intro w hSw; clear hSw; go_simp; try with_reducible rfl)
  simp only [E.pts]
 refine E.eP ?_
 refine E.xT 7 (v := ?_) rfl (by kernel_rfl) (fun c a w h => h) (by rfl) ?_ hHeld ?_
 rotate_left
 ·(intro w hSw; (try dsimp only at hSw); go_simp; try with_reducible rfl)
 simp only [E.pts]
 refine wpD_ready (rs := [8]) (by kernel_rfl) (by simp) ?_
 refine AllD.cons rfl (fun K hK => ?_) AllD.nil
 go_simp
 refine (must_false 151 p y0).mono ?_
 rintro e y1 ⟨rfl, hb⟩
 exact ⟨rfl, rfl, HB.out.trans ((HB0.out.trans (hb.mono HB0.out.size)).mono HB.out.size)⟩
theorem back_any (a b : St) (p : Ps) (W : World) :
  Calls Tryz.prog 115 #[.agg (stc a).toArray, .agg (stc b).toArray, .agg #[.int .i64 p.1, .int .i64 p.2]] W fun e w' => (match back a b p with | .ok _ => e = .returned (.tuple #[]) | .error er => e = .panicked (flt er)) /\ Below W.heap.size W w' := by
 unfold back
 cases hd : a.dead with
 | true => rw [if_pos (Or.inl rfl)]; exact bk_dead a b p W hd _ rfl
 | false =>
  cases hs : same a b with
  | true => rw [if_pos (Or.inr rfl)]; exact bk_same a b p W hd hs
  | false => rw [if_neg (by simp)]; exact bk_no a b p W hd hs
set_option maxHeartbeats 2000000
set_option maxRecDepth 100000
def FR (w : World) (bn bs br g : Nat) (cs : List Value) (s : St) (mv av : Value) (k : Wk) : Prop := w.heap[bn]? = some (.cells cs.toArray 30 (0, 0)) /\ SB w bs s /\ SB w br s0 /\ EW w g mv av k
structure AP (W : World) (bn bs br g : Nat) : Prop where
 n0 : bn = W.heap.size
 n1 : bs = W.heap.size + 1
 n2 : br = W.heap.size + 2
 lt : g < W.heap.size
theorem FR.gw {w w' : World} {W : World} {bn bs br g : Nat} {cs : List Value} {s : St} {mv av : Value} {k k' : Wk} (h : FR w bn bs br g cs s mv av k) (a : AP W bn bs br g) (hG : Gw g w w') (hE : EW w' g mv av k') : FR w' bn bs br g cs s mv av k' :=
 ⟨hG.keep h.1 (by have := a.lt; have := a.n0; omega), hG.keep h.2.1 (by have := a.lt; have := a.n1; omega), hG.keep h.2.2.1 (by have := a.lt; have := a.n2; omega), hE⟩
theorem FR.below {w w' : World} {bn bs br g : Nat} {cs : List Value} {s : St} {mv av : Value} {k : Wk} (h : FR w bn bs br g cs s mv av k) (hb : Below w.heap.size w w') : FR w' bn bs br g cs s mv av k :=
 ⟨(hb.block _ (S.lt_of h.1)).trans h.1, h.2.1.below hb, h.2.2.1.below hb, h.2.2.2.below hb⟩
theorem FR.row {w : World} {W : World} {bn bs br g : Nat} {cs : List Value} {s : St} {mv av : Value} {k : Wk} (h : FR w bn bs br g cs s mv av k) (a : AP W bn bs br g) (s' : St) : FR (w.setRow bs (stc s').toArray) bn bs br g cs s' mv av k :=
 ⟨(setRow_other w bs bn _ (by have := a.n0; have := a.n1; omega)).trans h.1, setRow_heap w bs _ _ _ _ h.2.1, (setRow_other w bs br _ (by have := a.n2; have := a.n1; omega)).trans h.2.2.1, (setRow_other w bs g _ (by have := a.lt; have := a.n1; omega)).trans h.2.2.2⟩
theorem FR.cell {w : World} {W : World} {bn bs br g : Nat} {cs : List Value} {s : St} {mv av : Value} {k : Wk} (h : FR w bn bs br g cs s mv av k) (a : AP W bn bs br g) (i : Nat) (v : Value) (s' : St) (e : (stc s).set i v = stc s') : FR (w.setCell ⟨bs, i, none⟩ v) bn bs br g cs s' mv av k :=
 ⟨(S.setCell_other w bs i bn v (by have := a.n0; have := a.n1; omega)).trans h.1, (by have := S.setCell_heap w bs i _ 129 v h.2.1; rw [e] at this; exact this), (S.setCell_other w bs i br v (by have := a.n2; have := a.n1; omega)).trans h.2.2.1, (S.setCell_other w bs i g v (by have := a.lt; have := a.n1; omega)).trans h.2.2.2⟩
theorem FR.res {w : World} {W : World} {bn bs br g : Nat} {cs : List Value} {s : St} {mv av : Value} {k : Wk} (h : FR w bn bs br g cs s mv av k) (a : AP W bn bs br g) (hG : Gw g W w) (s' : St) : SB (w.setRow br (stc s').toArray) br s' /\ EW (w.setRow br (stc s').toArray) g mv av k /\ Gw g W (w.setRow br (stc s').toArray) :=
 ⟨setRow_heap w br _ _ _ _ h.2.2.1, (setRow_other w br g _ (by have := a.lt; have := a.n2; omega)).trans h.2.2.2, hG.setR br _ (by have := a.n2; omega)⟩
theorem box_nsr (n : Nd) (q1 q2 : Option Addr) (d1 d2 : Nat) (s : St) (g : Nat) (mv av : Value) (k : Wk) (W : World) (h : EW W g mv av k) : ∃ W0 W1 W2, W.alloc (.cells #[.int .i64 n.k, .int .i64 n.op, .int .u16 n.v, .string n.nm, .slice q1 n.th.length d1, .slice q2 n.el.length d2, .bool n.has, .int .i64 n.p.1, .int .i64 n.p.2] 30) = W0 /\ W0.alloc (.cells #[.bool s.dead, .int .i64 s.h, .string ⟨s.own.toArray⟩] 129) = W1 /\ W1.alloc (.cells #[.bool false, .int .i64 0, .string { data := #[] }] 129) = W2 /\ Below W.heap.size W W2 /\ AP W W.heap.size W0.heap.size W1.heap.size g /\ FR W2 W.heap.size W0.heap.size W1.heap.size g (ndc n (.slice q1 n.th.length d1) (.slice q2 n.el.length d2)) s mv av k := by
 refine ⟨_, _, _, rfl, rfl, rfl, (((Below.refl _ _).alloc (Nat.le_refl _) _).alloc (by simp) _).alloc (by simp; omega) _, ⟨rfl, by simp, by simp, h.lt⟩, ?_, ?_, ?_, ?_⟩
 ·exact (Below.heap_alloc _ _ _ (by simp; omega)).trans ((Below.heap_alloc _ _ _ (by simp)).trans (heap_alloc_new W _))
 ·exact (Below.heap_alloc _ _ _ (by simp)).trans (heap_alloc_new _ _)
 ·exact heap_alloc_new _ _
 ·have hl := h.lt
  exact (Below.heap_alloc _ _ _ (by simp; omega)).trans ((Below.heap_alloc _ _ _ (by simp; omega)).trans ((Below.heap_alloc _ _ _ (by omega)).trans h))
theorem nd_cells {w : World} {b : Nat} {n : Nd} {tv ev : Value} (h : w.heap[b]? = some (.cells (ndc n tv ev).toArray 30 (0, 0))) : w.cell? ⟨b, 0, none⟩ = some (.int .i64 n.k) /\ w.cell? ⟨b, 1, none⟩ = some (.int .i64 n.op) /\ w.cell? ⟨b, 2, none⟩ = some (.int .u16 n.v) /\ w.cell? ⟨b, 3, none⟩ = some (.string n.nm) /\ w.cell? ⟨b, 4, none⟩ = some tv /\ w.cell? ⟨b, 5, none⟩ = some ev /\ w.cell? ⟨b, 6, none⟩ = some (.bool n.has) /\ w.cell? ⟨b, 7, none⟩ = some (.int .i64 n.p.1) /\ w.cell? ⟨b, 8, none⟩ = some (.int .i64 n.p.2) :=
 ⟨S.cell_of w b 0 _ 30 _ h rfl, S.cell_of w b 1 _ 30 _ h rfl, S.cell_of w b 2 _ 30 _ h rfl, S.cell_of w b 3 _ 30 _ h rfl, S.cell_of w b 4 _ 30 _ h rfl, S.cell_of w b 5 _ 30 _ h rfl, S.cell_of w b 6 _ 30 _ h rfl, S.cell_of w b 7 _ 30 _ h rfl, S.cell_of w b 8 _ 30 _ h rfl⟩
theorem step_own {w k' : Wk} {s s' : St} {a b : Int} {p : Ps} (h : step (w, s) a b p = .ok (k', s')) : s'.own = s.own := by
 unfold step at h
 split at h
 ·cases h
 ·cases h; rfl
theorem cut_own (l : List UInt8) : (⟨l.toArray⟩ : ByteArray).extract 0 (l.length - 1) = ⟨l.dropLast.toArray⟩ := by
 apply ByteArray.ext
 simp [ByteArray.data_extract, List.dropLast_eq_take]
theorem ri_in : (List.range 64).all (fun x => decide (0 <= P.ri x) && decide (P.ri x <= 3) && decide (0 <= P.ro x) && decide (P.ro x <= 4)) = true := by kernel_rfl
theorem ri_ro (x : Nat) (h : x < 64) : (0 <= P.ri x /\ P.ri x <= 3) /\ 0 <= P.ro x /\ P.ro x <= 4 := by
 have := List.all_eq_true.1 ri_in x (List.mem_range.2 h)
 simp only [Bool.and_eq_true, decide_eq_true_eq] at this
 omega
end Go.Proofs.YtlilefhmohkfkaaGreatDoor.E
