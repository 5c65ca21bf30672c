import Derived.Test.YtlilefhmohkfkaaGreatDoorEStep
import Derived.Laws.StructEq
import Derived.Laws.BytesArg
namespace Go.Proofs.YtlilefhmohkfkaaGreatDoor.E
open Go.RowKit
open Go.Proofs
open Go.Proofs.YtlilefhmohkfkaaGreatDoor.Y (Nd Df Ps ndc dfc hid)
set_option linter.unusedVariables false
set_option linter.unusedSimpArgs false
set_option maxHeartbeats 2000000
set_option maxRecDepth 100000
theorem box_s (s : St) (W : World) : ∃ W0, W.alloc (.cells #[.bool s.dead, .int .i64 s.h, .string ⟨s.own.toArray⟩] 129) = W0 /\ Below W.heap.size W W0 /\ W0.heap.size = W.heap.size + 1 /\ SB W0 W.heap.size s :=
 ⟨_, rfl, (Below.refl _ _).alloc (Nat.le_refl _) _, by simp, heap_alloc_new W _⟩
theorem kind_any (s : St) (n : Nat) (hn : n <= 2) (hl : s.own.length <= 1000) (W : World) :
  Calls Tryz.prog 120 #[.agg (stc s).toArray, .int .i64 (n : Int)] W fun e w' => e = .returned (.int .u8 (kd s n)) /\ Below W.heap.size W w' := by
 obtain ⟨W0, hW0, hB, hs, k1⟩ := box_s s W
 obtain ⟨x0, x1, x2⟩ := k1.cells
 have HB := hid hB
 have HK : Y.Hd (kd s n = if s.own.length <= n then 0 else ((s.own.getD (s.own.length - 1 - n) 0).toNat : Int)) := ⟨rfl⟩
 generalize kd s n = z at *
 have hsz : (⟨s.own.toArray⟩ : ByteArray).size = s.own.length := by simp [ByteArray.size]
 clear k1 hB hs
 unfold stc
 by_cases c : s.own.length <= n
 ·have c1 : decide ((s.own.length : Int) <= (n : Int)) = true := decide_eq_true (by omega)
  have c2 : decide ((n : Int) ≥ (s.own.length : Int)) = true := decide_eq_true (by omega)
  go_enter Tryz.func120, Tryz.ntmps120
  go_wp2
  go_ret
  exact ⟨by rw [HK.out, if_pos c]; rfl, HB.out⟩
 ·have c1 : decide ((s.own.length : Int) <= (n : Int)) = false := decide_eq_false (by omega)
  have c2 : decide ((n : Int) ≥ (s.own.length : Int)) = false := decide_eq_false (by omega)
  go_enter Tryz.func120, Tryz.ntmps120
  go_wp2
  go_ret
  exact ⟨by rw [HK.out, if_neg c, List.getD_eq_getElem?_getD, List.getElem?_eq_getElem (by omega)]; rfl, HB.out⟩
theorem rf_56 (s : St) (hl : s.own.length <= 1000) (W : World) :
  Calls Tryz.prog 112 #[.int .i64 56, .agg (stc s).toArray] W fun e w' => e = .returned (.bool (kd s 0 == 4)) /\ Below W.heap.size W w' := by
 obtain ⟨W0, hW0, hB, hs, k1⟩ := box_s s W
 obtain ⟨x0, x1, x2⟩ := k1.cells
 have HB := hid hB
 have hc := kind_any s 0 (by omega) hl W0
 generalize kd s 0 = z at *
 clear k1 hB hs
 unfold stc at hc ⊢
 go_enter Tryz.func112, Tryz.ntmps112
 go_wp2_with fail
 refine hc.mono ?_
 rintro e w1 ⟨rfl, hb⟩
 have HB1 := hid (HB.out.trans (hb.mono HB.out.size))
 clear hb hc x0 x1 x2 hW0
 go_wp2
 go_ret
 exact ⟨rfl, HB1.out⟩
theorem rf_57 (s : St) (hl : s.own.length <= 1000) (W : World) :
  Calls Tryz.prog 112 #[.int .i64 57, .agg (stc s).toArray] W fun e w' => e = .returned (.bool (kd s 0 == 4)) /\ Below W.heap.size W w' := by
 obtain ⟨W0, hW0, hB, hs, k1⟩ := box_s s W
 obtain ⟨x0, x1, x2⟩ := k1.cells
 have HB := hid hB
 have hc := kind_any s 0 (by omega) hl W0
 generalize kd s 0 = z at *
 clear k1 hB hs
 unfold stc at hc ⊢
 go_enter Tryz.func112, Tryz.ntmps112
 go_wp2_with fail
 refine hc.mono ?_
 rintro e w1 ⟨rfl, hb⟩
 have HB1 := hid (HB.out.trans (hb.mono HB.out.size))
 clear hb hc x0 x1 x2 hW0
 go_wp2
 go_ret
 exact ⟨rfl, HB1.out⟩
theorem rf_58 (s : St) (hl : s.own.length <= 1000) (W : World) :
  Calls Tryz.prog 112 #[.int .i64 58, .agg (stc s).toArray] W fun e w' => e = .returned (.bool (kd s 0 == 3)) /\ Below W.heap.size W w' := by
 obtain ⟨W0, hW0, hB, hs, k1⟩ := box_s s W
 obtain ⟨x0, x1, x2⟩ := k1.cells
 have HB := hid hB
 have hc := kind_any s 0 (by omega) hl W0
 generalize kd s 0 = z at *
 clear k1 hB hs
 unfold stc at hc ⊢
 go_enter Tryz.func112, Tryz.ntmps112
 go_wp2_with fail
 refine hc.mono ?_
 rintro e w1 ⟨rfl, hb⟩
 have HB1 := hid (HB.out.trans (hb.mono HB.out.size))
 clear hb hc x0 x1 x2 hW0
 go_wp2
 go_ret
 exact ⟨rfl, HB1.out⟩
theorem rf_59 (s : St) (hl : s.own.length <= 1000) (W : World) :
  Calls Tryz.prog 112 #[.int .i64 59, .agg (stc s).toArray] W fun e w' => e = .returned (.bool (kd s 2 == 3)) /\ Below W.heap.size W w' := by
 obtain ⟨W0, hW0, hB, hs, k1⟩ := box_s s W
 obtain ⟨x0, x1, x2⟩ := k1.cells
 have HB := hid hB
 have hc := kind_any s 2 (by omega) hl W0
 generalize kd s 2 = z at *
 clear k1 hB hs
 unfold stc at hc ⊢
 go_enter Tryz.func112, Tryz.ntmps112
 go_wp2_with fail
 refine hc.mono ?_
 rintro e w1 ⟨rfl, hb⟩
 have HB1 := hid (HB.out.trans (hb.mono HB.out.size))
 clear hb hc x0 x1 x2 hW0
 go_wp2
 go_ret
 exact ⟨rfl, HB1.out⟩
theorem rf_r (op : Int) (b1 : (op == 56) = false) (b2 : (op == 57) = false) (b3 : (op == 58) = false) (b4 : (op == 59) = false) (s : St) (W : World) :
  Calls Tryz.prog 112 #[.int .i64 op, .agg (stc s).toArray] W fun e w' => e = .returned (.bool true) /\ Below W.heap.size W w' := by
 obtain ⟨W0, hW0, hB, hs, k1⟩ := box_s s W
 have HB := hid hB
 clear k1 hB hs
 unfold stc
 go_enter Tryz.func112, Tryz.ntmps112
 go_wp2
 go_ret
 exact ⟨rfl, HB.out⟩
theorem returnFits_any (op : Int) (s : St) (hl : s.own.length <= 1000) (W : World) :
  Calls Tryz.prog 112 #[.int .i64 op, .agg (stc s).toArray] W fun e w' => e = .returned (.bool (rfits op s)) /\ Below W.heap.size W w' := by
 unfold rfits
 by_cases c1 : op = 56
 ·subst c1; rw [if_pos (Or.inl rfl)]; exact rf_56 s hl W
 by_cases c2 : op = 57
 ·subst c2; rw [if_pos (Or.inr rfl)]; exact rf_57 s hl W
 rw [if_neg (by omega)]
 by_cases c3 : op = 58
 ·subst c3; rw [if_pos rfl]; exact rf_58 s hl W
 rw [if_neg c3]
 by_cases c4 : op = 59
 ·subst c4; rw [if_pos rfl]; exact rf_59 s hl W
 rw [if_neg c4]
 exact rf_r op (by simpa using c1) (by simpa using c2) (by simpa using c3) (by simpa using c4) s W
theorem cat_own (a b : List UInt8) : ((⟨a.toArray⟩ : ByteArray) ++ (⟨b.toArray⟩ : ByteArray)) = ⟨(a ++ b).toArray⟩ := by
 apply ByteArray.ext
 simp
theorem put_any (x : X) (p : Ps) (ks : List UInt8) (hl : x.2.own.length <= 1000) (hk : ks.length <= 1000) (kv : Value) (O : Nat -> Prop) (g : Nat) (mv av : Value) (W : World) (hO : ∀ j, O j -> j < W.heap.size) (hks : Y.BS W O kv ks) (h : EW W g mv av x.1) :
  Calls Tryz.prog 113 #[.pointer (some ⟨g, 0, none⟩), .agg (stc x.2).toArray, .agg #[.int .i64 p.1, .int .i64 p.2], kv] W (EO W g mv av (fun s => .agg (stc s).toArray) (put x p ks)) := by
 obtain ⟨w, s⟩ := x
 obtain ⟨W0, W1, W2, hW0, hW1, hW2, hB, hs0, hs1, hs2, k1, k2, k3⟩ := box_spr s p W
 have hE : EW W2 g mv av w := (hB.block g h.lt).trans h
 have hgl := h.lt
 have hcv := (hks.below hB hO).conv
 obtain ⟨kp, kc, rfl⟩ := hks.ex
 simp only at hl h
 have n1 : W.heap.size ≠ g := by omega
 have n2 : W0.heap.size ≠ g := by omega
 have n3 : W1.heap.size ≠ g := by omega
 have hne : W1.heap.size ≠ W.heap.size := by omega
 have hne0 : W0.heap.size ≠ W.heap.size := by omega
 have hsz1 : (⟨s.own.toArray⟩ : ByteArray).size = s.own.length := by simp [ByteArray.size]
 have hsz2 : (⟨ks.toArray⟩ : ByteArray).size = ks.length := by simp [ByteArray.size]
 have hsz3 : (⟨(s.own ++ ks).toArray⟩ : ByteArray).size = s.own.length + ks.length := by simp [ByteArray.size]
 have hcat := cat_own s.own ks
 obtain ⟨x0, x1, x2⟩ := k1.cells
 obtain ⟨y0, y1⟩ := k2.cells
 have f2 := k1.fro 2
 have j1 : SB (W2.setCell ⟨W.heap.size, 2, none⟩ (.string ⟨(s.own ++ ks).toArray⟩)) W.heap.size { s with own := s.own ++ ks } := S.setCell_heap W2 W.heap.size 2 _ 129 _ k1
 have j2 : PB (W2.setCell ⟨W.heap.size, 2, none⟩ (.string ⟨(s.own ++ ks).toArray⟩)) W0.heap.size p := (S.setCell_other W2 W.heap.size 2 W0.heap.size _ hne0).trans k2
 have j3 : SB (W2.setCell ⟨W.heap.size, 2, none⟩ (.string ⟨(s.own ++ ks).toArray⟩)) W1.heap.size s0 := (S.setCell_other W2 W.heap.size 2 W1.heap.size _ hne).trans k3
 have jE : EW (W2.setCell ⟨W.heap.size, 2, none⟩ (.string ⟨(s.own ++ ks).toArray⟩)) g mv av w := (S.setCell_other W2 W.heap.size 2 g _ (Ne.symm n1)).trans hE
 have jG : Gw g W (W2.setCell ⟨W.heap.size, 2, none⟩ (.string ⟨(s.own ++ ks).toArray⟩)) := (Gw.of hB).setN W.heap.size 2 _ (Nat.le_refl _)
 have HJ := hid (And.intro j1 (And.intro j2 (And.intro j3 (And.intro jE jG))))
 have HN := hid (And.intro n1 (And.intro n2 (And.intro n3 hs1)))
 have HR : Y.Hd (put (w, s) p ks = match grow w 0 0 ((s.own.length + ks.length : Nat) : Int) p with | .error e => .error e | .ok w => .ok (w, { s with own := s.own ++ ks })) := ⟨rfl⟩
 generalize put (w, s) p ks = R at *
 clear j1 j2 j3 jE jG k1 k2 k3 hs0 hs1 hs2 hE hks hO n1 n2 n3 hne hne0 hB h
 unfold stc
 go_enter Tryz.func113, Tryz.ntmps113
 go_upto_region 2 with fail
 clear x0 x1 x2 y0 y1 f2 hcv hW0 hW1 hW2 hcat hsz1 hsz2
 generalize W2.setCell ⟨W.heap.size, 2, none⟩ (.string ⟨(s.own ++ ks).toArray⟩) = y at *
 obtain ⟨x0, x1, x2⟩ := HJ.out.1.cells
 obtain ⟨y0, y1⟩ := HJ.out.2.1.cells
 have hcall := grow_any w 0 0 ((s.own.length + ks.length : Nat) : Int) p g mv av y HJ.out.2.2.2.1
 generalize hgr : grow w 0 0 ((s.own.length + ks.length : Nat) : Int) p = G at *
 clear hgr
 go_wp2_with fail
 refine hcall.mono ?_
 intro e w1 hp
 clear hcall x0 x1 x2 y0 y1 hsz3
 cases G with
 | error er =>
  obtain ⟨rfl, hG⟩ := hp
  refine ⟨rfl, ?_⟩
  rw [HR.out]
  exact ⟨rfl, HJ.out.2.2.2.2.trans hG⟩
 | ok w' =>
  obtain ⟨rfl, hE, hG⟩ := hp
  have k1 : SB w1 W.heap.size { s with own := s.own ++ ks } := hG.keep HJ.out.1 HN.out.1
  have k3 : SB w1 W1.heap.size s0 := hG.keep HJ.out.2.2.1 HN.out.2.2.1
  obtain ⟨x0, x1, x2⟩ := k1.cells
  have k6 : SB (w1.setRow W1.heap.size (stc { s with own := s.own ++ ks }).toArray) W1.heap.size { s with own := s.own ++ ks } := setRow_heap w1 W1.heap.size _ _ _ _ k3
  have hE6 : EW (w1.setRow W1.heap.size (stc { s with own := s.own ++ ks }).toArray) g mv av w' := (setRow_other w1 W1.heap.size g _ (Ne.symm HN.out.2.2.1)).trans hE
  have hG6 : Gw g W (w1.setRow W1.heap.size (stc { s with own := s.own ++ ks }).toArray) := (HJ.out.2.2.2.2.trans hG).setR W1.heap.size _ (by have := HN.out.2.2.2; omega)
  unfold stc at k6 hE6 hG6
  simp only at k6 hE6 hG6
  have H6 := hid (And.intro k6 (And.intro hE6 hG6))
  clear k6 hE6 hG6 hE hG k1
  go_wp2_with (refine wpList_store_row rfl 129 _ _ rfl W1.heap.size _ rfl rfl 129 _ k3 (by exact sizeS) (by rfl) (by simp [Value.oneCell']) ?_)
  refine bodyPost_ret (st_end 8 rfl rfl H6.out.1) rfl ?_
  rw [HR.out]
  exact ⟨rfl, H6.out.2.1, H6.out.2.2⟩
end Go.Proofs.YtlilefhmohkfkaaGreatDoor.E
