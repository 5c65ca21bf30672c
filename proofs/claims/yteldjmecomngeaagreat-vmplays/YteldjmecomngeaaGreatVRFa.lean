import Derived.Test.YteldjmecomngeaaGreatVRKd
import Derived.Test.YteldjmecomngeaaGreatVRTk
import Derived.Test.YteldjmecomngeaaGreatVRLv
import Derived.Test.YteldjmecomngeaaGreatVTks
import Derived.Deep.DeepCutAuto
import Derived.Deep.RegionHeldLaw
import Derived.Deep.RegionHeld3
namespace Go.Proofs.YteldjmecomngeaaGreat.V
open Go.RowKit
open Go.Proofs
set_option linter.unusedVariables false
set_option linter.unusedSimpArgs false
set_option maxHeartbeats 1000000
set_option maxRecDepth 100000
def lkL (op : Nat) : List Int := match op with
 | 7 => [3, 2]
 | 56 => [4]
 | 57 => [4]
 | 58 => [3]
 | 59 => [0, 0, 3]
 | _ => []
theorem lkL_len (op : Nat) : (lkL op).length <= 3 := by unfold lkL; split <;> decide
def ksO (op : Nat) (R : List (Int × Int)) : List Int := if op = 8 /\ 0 < R.length then [1] else lkL op
def rfa (op : Nat) (D : List Int) (R : List (Int × Int)) : Int :=
 if D.length < tkN op then 1 else if 256 < D.length - tkN op + lvN op then 2 else if kdR ((ksO op R).length == 3) R 0 (ksO op R) ≠ 0 then kdR ((ksO op R).length == 3) R 0 (ksO op R) else if 128 < R.length + puN op then 4 else 0
theorem tab_le (op : Nat) (h1 : 1 <= op) (h2 : op <= 63) : tkN op <= 3 /\ lvN op <= 4 /\ puN op <= 2 := by
 have : ∀ k : Fin 64, tkN k.val <= 3 /\ lvN k.val <= 4 /\ puN k.val <= 2 := by decide
 exact this ⟨op, by omega⟩
theorem ksv_new (W : World) (ks : List Int) (T : TypeId) : KsV (W.alloc (.cells (ks.map (Value.int .i64)).toArray T)) (.slice (some ⟨W.heap.size, 0, none⟩) ks.length ks.length) ks :=
 .inr ⟨W.heap.size, rfl, fun i k hk => S.cell_of _ _ i (ks.map (Value.int .i64)) T _ (heap_alloc_new W _) (by rw [List.getElem?_map, hk]; rfl)⟩
theorem looks_any (op : Nat) (w : World) : Calls Tryz.prog 104 #[.int .i64 (op : Int)] w fun e w' => ∃ u, e = .returned u /\ KsV w' u (lkL op) /\ Below w.heap.size w w' := by
 have h : op = 7 \/ op = 56 \/ op = 57 \/ op = 58 \/ op = 59 \/ (op ≠ 7 /\ op ≠ 56 /\ op ≠ 57 /\ op ≠ 58 /\ op ≠ 59) := by omega
 rcases h with rfl | rfl | rfl | rfl | rfl | ⟨a, b, c, d, e⟩
 ·have hz := ksv_new w [3, 2] 3
  have hb : Below w.heap.size w (w.alloc (.cells #[.int .i64 3, .int .i64 2] 3)) := P.bel_alloc w _
  go_enter Tryz.func104, Tryz.ntmps104; go_wp2; go_ret; exact ⟨_, rfl, hz, hb⟩
 ·have hz := ksv_new w [4] 3
  have hb : Below w.heap.size w (w.alloc (.cells #[.int .i64 4] 3)) := P.bel_alloc w _
  go_enter Tryz.func104, Tryz.ntmps104; go_wp2; go_ret; exact ⟨_, rfl, hz, hb⟩
 ·have hz := ksv_new w [4] 3
  have hb : Below w.heap.size w (w.alloc (.cells #[.int .i64 4] 3)) := P.bel_alloc w _
  go_enter Tryz.func104, Tryz.ntmps104; go_wp2; go_ret; exact ⟨_, rfl, hz, hb⟩
 ·have hz := ksv_new w [3] 3
  have hb : Below w.heap.size w (w.alloc (.cells #[.int .i64 3] 3)) := P.bel_alloc w _
  go_enter Tryz.func104, Tryz.ntmps104; go_wp2; go_ret; exact ⟨_, rfl, hz, hb⟩
 ·have hz := ksv_new w [0, 0, 3] 3
  have hb : Below w.heap.size w (w.alloc (.cells #[.int .i64 0, .int .i64 0, .int .i64 3] 3)) := P.bel_alloc w _
  go_enter Tryz.func104, Tryz.ntmps104; go_wp2; go_ret; exact ⟨_, rfl, hz, hb⟩
 ·have e0 : lkL op = [] := by unfold lkL; split <;> first | rfl | omega
  have e1 : ((op : Int) == 7) = false := by simp; omega
  have e2 : ((op : Int) == 56) = false := by simp; omega
  have e3 : ((op : Int) == 57) = false := by simp; omega
  have e4 : ((op : Int) == 58) = false := by simp; omega
  have e5 : ((op : Int) == 59) = false := by simp; omega
  rw [e0]
  go_enter Tryz.func104, Tryz.ntmps104; go_wp2; go_ret; exact ⟨_, rfl, .inl ⟨rfl, rfl⟩, Below.refl _ _⟩
theorem faults_any (g b : Nat) (kv dv rv : Value) (F : Nat -> Prop) (v : VS) (op : Nat) (h1 : 1 <= op) (h2 : op <= 63) (W : World) (h : RX W g b kv dv rv F v) :
  Calls Tryz.prog 75 #[.pointer (some ⟨g, 0, none⟩), .int .i64 (op : Int)] W fun e W' => e = .returned (.int .i64 (rfa op v.D v.R)) /\ Below W.heap.size W W' := by
 obtain ⟨t1, t2, t3⟩ := tab_le op h1 h2
 have kT := fun w => tk_any op h1 h2 w
 have kL := fun w => lv_any op h1 h2 w
 have kP := fun w => pu_any op h1 h2 w
 have c4 := h.c4
 have c5 := h.c5
 have hdl := h.dl
 have hrl := h.rl
 obtain ⟨p, cd, hdv, _, _⟩ := h.d.ex
 obtain ⟨q, c, hrv, _, _⟩ := h.r.ex
 subst hrv
 rw [hdv] at c4
 obtain ⟨nd, hnd⟩ : ∃ n, v.D.length = n := ⟨_, rfl⟩
 obtain ⟨nr, hnr⟩ : ∃ n, v.R.length = n := ⟨_, rfl⟩
 obtain ⟨tk, htk⟩ : ∃ t, tkN op = t := ⟨_, rfl⟩
 obtain ⟨lv, hlv⟩ : ∃ t, lvN op = t := ⟨_, rfl⟩
 obtain ⟨pu, hpu⟩ : ∃ t, puN op = t := ⟨_, rfl⟩
 rw [hnd] at c4 hdl
 rw [hnr] at c5 hrl h
 rw [htk] at kT t1
 rw [hlv] at kL t2
 rw [hpu] at kP t3
 have HX := S.hid (h)
 have HN : Hid _ := And.intro hnd hnr
 have HT : Hid _ := And.intro htk (And.intro hlv hpu)
 clear h hnd hnr htk hlv hpu hdv
 go_enter Tryz.func75, Tryz.ntmps75
 by_cases q1 : nd < tk
 ·have d1 : decide ((nd : Int) < (tk : Int)) = true := decide_eq_true (by omega)
  have hres : rfa op v.D v.R = 1 := by unfold rfa; rw [if_pos (by rw [HN.out.1, HT.out.1]; exact q1)]
  have HRES : Hid _ := hres; clear hres; go_wp2_with (refine (kT _).mono ?_; rintro e wx ⟨rfl, hwx⟩; rw [hwx]; clear hwx wx)
  go_ret; exact ⟨by rw [HRES.out]; rfl, Below.refl _ _⟩
 have d1 : decide ((nd : Int) < (tk : Int)) = false := decide_eq_false (by omega)
 have w1 : IntKind.i64.wrap ((nd : Int) - (tk : Int)) = (nd : Int) - (tk : Int) := IntWalk.i64_in _ (by omega)
 have w2 : IntKind.i64.wrap ((nd : Int) - (tk : Int) + (lv : Int)) = (nd : Int) - (tk : Int) + (lv : Int) := IntWalk.i64_in _ (by omega)
 by_cases q2 : 256 < nd - tk + lv
 ·have d2 : decide (256 < (nd : Int) - (tk : Int) + (lv : Int)) = true := decide_eq_true (by omega)
  have hres : rfa op v.D v.R = 2 := by unfold rfa; rw [if_neg (by rw [HN.out.1, HT.out.1]; exact q1), if_pos (by rw [HN.out.1, HT.out.1, HT.out.2.1]; exact q2)]
  have HRES : Hid _ := hres; clear hres; go_wp2_with (first | (go_at_call 67; refine (kT _).mono ?_; rintro e wx ⟨rfl, hwx⟩; rw [hwx]; clear hwx wx) | (go_at_call 68; refine (kL _).mono ?_; rintro e wx ⟨rfl, hwx⟩; rw [hwx]; clear hwx wx))
  go_ret; exact ⟨by rw [HRES.out]; rfl, Below.refl _ _⟩
 have d2 : decide (256 < (nd : Int) - (tk : Int) + (lv : Int)) = false := decide_eq_false (by omega)
 go_wp2_with (first | (go_at_call 67; refine (kT _).mono ?_; rintro e wx ⟨rfl, hwx⟩; rw [hwx]; clear hwx wx) | (go_at_call 68; refine (kL _).mono ?_; rintro e wx ⟨rfl, hwx⟩; rw [hwx]; clear hwx wx))
 refine (looks_any op W).mono ?_
 rintro e wl ⟨u, rfl, hu, hbl⟩
 obtain ⟨up, hup⟩ := hu.ex
 subst hup
 have HU : Hid _ := hu
 have HBl : Hid _ := hbl
 have c5l : wl.cell? ⟨g, 5, none⟩ = some (.slice q nr c) := by rw [hbl.cell (World.block_lt_of_cell? W _ c5)]; exact c5
 clear hu hbl c4 w1 w2 d1 d2
 by_cases p8 : op = 8 /\ 0 < nr
 ·obtain ⟨rfl, hn0⟩ := p8
  have i1 : (0 : Int) < (nr : Int) := by omega
  obtain ⟨kf, hkf⟩ : ∃ kf, kdR ((ksO 8 v.R).length == 3) v.R 0 (ksO 8 v.R) = kf := ⟨_, rfl⟩
  have HKF : Hid _ := hkf; have hkf2 : kdR (([1] : List Int).length == 3) v.R 0 [1] = kf := by rw [<- hkf]; unfold ksO; rw [if_pos ⟨rfl, by rw [HN.out.2]; exact hn0⟩]
  have hz := ksv_new wl [1] 3; obtain ⟨wm, hwm⟩ : ∃ wm, wl.alloc (.cells #[.int .i64 1] 3) = wm := ⟨_, rfl⟩
  have hbm : Below wl.heap.size wl wm := by rw [<- hwm]; exact P.bel_alloc wl _
  have c5m : wm.cell? ⟨g, 5, none⟩ = some (.slice q nr c) := by rw [hbm.cell (World.block_lt_of_cell? wl _ c5l)]; exact c5l
  replace hz : KsV wm (.slice (some ⟨wl.heap.size, 0, none⟩) 1 1) [1] := by rw [<- hwm]; exact hz
  have HZ : Hid _ := hz; have HBm : Hid (Below W.heap.size W wm) := HBl.out.trans (hbm.mono HBl.out.size); have HWM : Hid _ := hwm; have HKF2 : Hid _ := hkf2; clear hz hbm hwm hkf hkf2; go_upto_region 9 with fail
  rw [HWM.out]; go_wp2_with fail
  have kk := kinds_any g b kv dv _ F v [1] (by decide) _ wm (HX.out.below HBm.out) HZ.out; rw [HKF2.out] at kk; refine kk.mono ?_; rintro e wz ⟨rfl, hwz⟩; have c5z : wz.cell? ⟨g, 5, none⟩ = some (.slice q nr c) := by rw [hwz]; exact c5m
  have HBz : Hid (Below W.heap.size W wz) := by rw [hwz]; exact HBm.out
  clear hwz kk c5m c5l
  by_cases q3 : kf = 0
  case neg =>
   have e3 : (kf != 0) = true := by simpa using q3
   have hres : rfa 8 v.D v.R = kf := by unfold rfa; rw [if_neg (by rw [HN.out.1, HT.out.1]; exact q1), if_neg (by rw [HN.out.1, HT.out.1, HT.out.2.1]; exact q2), HKF.out, if_pos q3]
   have HRES : Hid _ := hres; clear hres; go_wp2; go_ret; exact ⟨by rw [HRES.out]; rfl, HBz.out⟩
  subst q3; have hmk : ∀ X : World, Below wz.heap.size wz X -> (fun wz : World => wz.cell? ⟨g, 5, none⟩ = some (.slice q nr c)) X := fun X hX => by show X.cell? ⟨g, 5, none⟩ = some (.slice q nr c); rw [hX.cell (World.block_lt_of_cell? wz _ c5z)]; exact c5z
  have HMK : Hid _ := hmk; have HB0 : Hid (Below wz.heap.size wz wz.drew) := ⟨rfl, rfl, rfl, Nat.le_refl _, fun _ _ => rfl⟩
  clear hmk; have w12 : IntKind.i64.wrap ((nr : Int) + (pu : Int)) = (nr : Int) + (pu : Int) := IntWalk.i64_in _ (by omega); go_upto_region 12 with fail
  refine V.wrh HMK.out HB0.out (by kernel_rfl) (fun hHeld => ?_); generalize wz.drew = y0 at *
  refine V.wtk0 (is := [0, 1, 2, 3, 4, 5, 6]) ?_
  iterate 7
   refine V.wt (v := ?_) rfl (by kernel_rfl) (fun c a w h => h) (by rfl) ?_ hHeld ?_
   rotate_left
   ·(intro w hSw; (try dsimp only at hSw); go_simp; try with_reducible rfl)
   simp only [V.pts]
  refine V.wtkE ?_; refine V.wrd 7 (by kernel_rfl) rfl fun K hK => ?_
  go_simp; refine (kP _).mono ?_; rintro e wx ⟨rfl, hwx⟩; dsimp only; rw [hwx]; clear hwx wx; refine hK.out _ _ (HMK.out _ HB0.out) (fun hHeld => ?_); clear hK K; try simp only [V.pts]
  refine V.wt1 8 (v := ?_) rfl (by kernel_rfl) (fun c a w h => h) (by rfl) ?_ hHeld ?_
  rotate_left
  ·(intro w hSw; (try dsimp only at hSw); go_simp; try with_reducible rfl)
  simp only [V.pts]; refine V.wt1 9 (v := ?_) rfl (by kernel_rfl) (fun c a w h => h) (by rfl) ?_ hHeld ?_
  rotate_left
  ·(intro w hSw; (try dsimp only at hSw); go_simp; try with_reducible rfl)
  simp only [V.pts]; refine wpAnyH_done (by kernel_rfl) ?_ _; clear hHeld; have HBe : Hid (Below W.heap.size W y0) := HBz.out.trans (HB0.out.mono HBz.out.size)
  by_cases q4 : 128 < nr + pu
  ·have d4 : decide (128 < (nr : Int) + (pu : Int)) = true := decide_eq_true (by omega)
   have hres : rfa 8 v.D v.R = 4 := by unfold rfa; rw [if_neg (by rw [HN.out.1, HT.out.1]; exact q1), if_neg (by rw [HN.out.1, HT.out.1, HT.out.2.1]; exact q2), HKF.out, if_neg (fun e => e rfl), if_pos (by rw [HN.out.2, HT.out.2.2]; exact q4)]
   have HRES : Hid _ := hres; clear hres; go_wp2; go_ret; exact ⟨by rw [HRES.out]; rfl, HBe.out⟩
  ·have d4 : decide (128 < (nr : Int) + (pu : Int)) = false := decide_eq_false (by omega)
   have hres : rfa 8 v.D v.R = 0 := by unfold rfa; rw [if_neg (by rw [HN.out.1, HT.out.1]; exact q1), if_neg (by rw [HN.out.1, HT.out.1, HT.out.2.1]; exact q2), HKF.out, if_neg (fun e => e rfl), if_neg (by rw [HN.out.2, HT.out.2.2]; exact q4)]
   have HRES : Hid _ := hres; clear hres; go_wp2; go_ret; exact ⟨by rw [HRES.out]; rfl, HBe.out⟩
 obtain ⟨kf, hkf⟩ : ∃ kf, kdR ((ksO op v.R).length == 3) v.R 0 (ksO op v.R) = kf := ⟨_, rfl⟩
 have HKF : Hid _ := hkf
 have hkf2 : kdR ((lkL op).length == 3) v.R 0 (lkL op) = kf := by rw [<- hkf]; unfold ksO; rw [if_neg (by rw [HN.out.2]; exact p8)]
 have HKF2 : Hid _ := hkf2
 clear hkf hkf2
 go_upto_region 7 with fail
 go_cut [38] (fun s wx => s = .bool false /\ wx = wl)
 case first =>
  by_cases p9 : op = 8
  ·subst p9
   obtain rfl : nr = 0 := by omega
   go_wp2; go_meet
   case rel => exact ⟨rfl, rfl⟩
  ·have e8 : ((op : Int) == 8) = false := by simp; omega
   go_wp2; go_meet
   case rel => exact ⟨rfl, rfl⟩
 case rest =>
  obtain ⟨rfl, hwx⟩ := hcut; subst hwx; go_wp2_with fail
  have kk := kinds_any g b kv dv _ F v (lkL op) (lkL_len op) _ wc (HX.out.below HBl.out) HU.out; rw [HKF2.out] at kk; refine kk.mono ?_; rintro e wz ⟨rfl, hwz⟩; have c5z : wz.cell? ⟨g, 5, none⟩ = some (.slice q nr c) := by rw [hwz]; exact c5l
  have HBz : Hid (Below W.heap.size W wz) := by rw [hwz]; exact HBl.out
  clear hwz kk c5l
  by_cases q3 : kf = 0
  case neg =>
   have e3 : (kf != 0) = true := by simpa using q3
   have hres : rfa op v.D v.R = kf := by unfold rfa; rw [if_neg (by rw [HN.out.1, HT.out.1]; exact q1), if_neg (by rw [HN.out.1, HT.out.1, HT.out.2.1]; exact q2), HKF.out, if_pos q3]
   have HRES : Hid _ := hres; clear hres; go_wp2; go_ret; exact ⟨by rw [HRES.out]; rfl, HBz.out⟩
  subst q3; have hmk : ∀ X : World, Below wz.heap.size wz X -> (fun wz : World => wz.cell? ⟨g, 5, none⟩ = some (.slice q nr c)) X := fun X hX => by show X.cell? ⟨g, 5, none⟩ = some (.slice q nr c); rw [hX.cell (World.block_lt_of_cell? wz _ c5z)]; exact c5z
  have HMK : Hid _ := hmk; have HB0 : Hid (Below wz.heap.size wz wz.drew) := ⟨rfl, rfl, rfl, Nat.le_refl _, fun _ _ => rfl⟩
  clear hmk; have w12 : IntKind.i64.wrap ((nr : Int) + (pu : Int)) = (nr : Int) + (pu : Int) := IntWalk.i64_in _ (by omega); go_upto_region 12 with fail
  refine V.wrh HMK.out HB0.out (by kernel_rfl) (fun hHeld => ?_); generalize wz.drew = y0 at *
  refine V.wtk0 (is := [0, 1, 2, 3, 4, 5, 6]) ?_
  iterate 7
   refine V.wt (v := ?_) rfl (by kernel_rfl) (fun c a w h => h) (by rfl) ?_ hHeld ?_
   rotate_left
   ·(intro w hSw; (try dsimp only at hSw); go_simp; try with_reducible rfl)
   simp only [V.pts]
  refine V.wtkE ?_; refine V.wrd 7 (by kernel_rfl) rfl fun K hK => ?_
  go_simp; refine (kP _).mono ?_; rintro e wx ⟨rfl, hwx⟩; dsimp only; rw [hwx]; clear hwx wx; refine hK.out _ _ (HMK.out _ HB0.out) (fun hHeld => ?_); clear hK K; try simp only [V.pts]
  refine V.wt1 8 (v := ?_) rfl (by kernel_rfl) (fun c a w h => h) (by rfl) ?_ hHeld ?_
  rotate_left
  ·(intro w hSw; (try dsimp only at hSw); go_simp; try with_reducible rfl)
  simp only [V.pts]; refine V.wt1 9 (v := ?_) rfl (by kernel_rfl) (fun c a w h => h) (by rfl) ?_ hHeld ?_
  rotate_left
  ·(intro w hSw; (try dsimp only at hSw); go_simp; try with_reducible rfl)
  simp only [V.pts]; refine wpAnyH_done (by kernel_rfl) ?_ _; clear hHeld; have HBe : Hid (Below W.heap.size W y0) := HBz.out.trans (HB0.out.mono HBz.out.size)
  by_cases q4 : 128 < nr + pu
  ·have d4 : decide (128 < (nr : Int) + (pu : Int)) = true := decide_eq_true (by omega)
   have hres : rfa op v.D v.R = 4 := by unfold rfa; rw [if_neg (by rw [HN.out.1, HT.out.1]; exact q1), if_neg (by rw [HN.out.1, HT.out.1, HT.out.2.1]; exact q2), HKF.out, if_neg (fun e => e rfl), if_pos (by rw [HN.out.2, HT.out.2.2]; exact q4)]
   have HRES : Hid _ := hres; clear hres; go_wp2; go_ret; exact ⟨by rw [HRES.out]; rfl, HBe.out⟩
  ·have d4 : decide (128 < (nr : Int) + (pu : Int)) = false := decide_eq_false (by omega)
   have hres : rfa op v.D v.R = 0 := by unfold rfa; rw [if_neg (by rw [HN.out.1, HT.out.1]; exact q1), if_neg (by rw [HN.out.1, HT.out.1, HT.out.2.1]; exact q2), HKF.out, if_neg (fun e => e rfl), if_neg (by rw [HN.out.2, HT.out.2.2]; exact q4)]
   have HRES : Hid _ := hres; clear hres; go_wp2; go_ret; exact ⟨by rw [HRES.out]; rfl, HBe.out⟩
set_option maxRecDepth 100000
theorem tab_plain (op : Nat) (h : op <= 63) (hp : P.plain op = true) : tkN op = (P.rw_ op).i /\ lvN op = (P.rw_ op).o /\ puN op = (P.rw_ op).s := by
 have : ∀ k : Fin 64, P.plain (k.val : Int) = true -> tkN k.val = (P.rw_ (k.val : Int)).i /\ lvN k.val = (P.rw_ (k.val : Int)).o /\ puN k.val = (P.rw_ (k.val : Int)).s := by decide
 exact this ⟨op, by omega⟩ hp
theorem look_plain (op : Nat) (h : op <= 63) (hp : P.plain op = true) (R : List (Int × Int)) : kdR ((ksO op R).length == 3) R 0 (ksO op R) = (P.lk (P.rw_ op).k (P.rw_ op).bl R).2 := by
 have h8 : op ≠ 8 := by rintro rfl; revert hp; decide
 have h7 : op ≠ 7 := by rintro rfl; revert hp; decide
 have e0 : ksO op R = lkL op := by unfold ksO; rw [if_neg (fun c => h8 c.1)]
 rw [e0]
 by_cases q : op = 56 \/ op = 57 \/ op = 58 \/ op = 59
 ·rcases q with rfl | rfl | rfl | rfl
  ·simp only [lkL, P.rw_, kdR, P.lk, kAt, List.length_cons, List.length_nil]
   by_cases a : R.length <= 0 <;> simp [a] <;> split <;> simp_all
  ·simp only [lkL, P.rw_, kdR, P.lk, kAt, List.length_cons, List.length_nil]
   by_cases a : R.length <= 0 <;> simp [a] <;> split <;> simp_all
  ·simp only [lkL, P.rw_, kdR, P.lk, kAt, List.length_cons, List.length_nil]
   by_cases a : R.length <= 0 <;> simp [a] <;> split <;> simp_all
  ·simp only [lkL, P.rw_, kdR, P.lk, kAt, List.length_cons, List.length_nil]
   by_cases a : R.length <= 2 <;> simp [a] <;> split <;> simp_all
 ·have e1 : lkL op = [] := by unfold lkL; split <;> first | rfl | omega
  have e2 : (P.rw_ (op : Int)).k = 0 := by
   have : ∀ k : Fin 64, k.val ≠ 56 -> k.val ≠ 57 -> k.val ≠ 58 -> k.val ≠ 59 -> (P.rw_ (k.val : Int)).k = 0 := by decide
   exact this ⟨op, by omega⟩ (fun c => q (.inl c)) (fun c => q (.inr (.inl c))) (fun c => q (.inr (.inr (.inl c)))) (fun c => q (.inr (.inr (.inr c))))
  rw [e1, e2, P.lk, if_pos rfl]
  rfl
theorem need_nat (n i o : Nat) : S.need n (i : Int) (o : Int) = if n < i then 1 else if 256 < n - i + o then 2 else 0 := by
 unfold S.need
 have e1 : max (i : Int) 0 = (i : Int) := by omega
 have e2 : max (o : Int) 0 = (o : Int) := by omega
 rw [e1, e2]
 by_cases q1 : n < i
 ·rw [if_pos (by omega), if_pos q1]
 ·rw [if_neg (by omega), if_neg q1]
  by_cases q2 : 256 < n - i + o
  ·rw [if_pos (by omega), if_pos q2]
  ·rw [if_neg (by omega), if_neg q2]
theorem rfa_plain (op : Nat) (h : op <= 63) (hp : P.plain op = true) (D : List Int) (R : List (Int × Int)) : rfa op D R = P.fl op D R := by
 obtain ⟨a, b, c⟩ := tab_plain op h hp
 unfold rfa P.fl P.flt
 rw [look_plain op h hp R, a, b, c, need_nat]
 by_cases q1 : D.length < (P.rw_ op).i
 ·simp [q1]
 ·by_cases q2 : 256 < D.length - (P.rw_ op).i + (P.rw_ op).o
  ·simp [q1, q2]
  ·simp [q1, q2]
theorem dn_plain (op : Nat) (hp : P.plain op = true) (x be : Int) (v : VS) : dn op x be v = pl op be v := by
 unfold dn
 split <;> first | rfl | (rename_i h; rw [h] at hp; exact absurd hp (by decide))
theorem st_plain (op : Nat) (h : op <= 63) (hp : P.plain op = true) (x be : Int) (v : VS) (hf : rfa op v.D v.R = 0) : ({ (dn op x be v).v with pc := (dn op x be v).on } : VS) = { v with D := P.nD op v.D v.R v.m, R := P.nR op v.D v.R, m := P.nM op v.D v.m, pc := be } := by
 rw [dn_plain op hp, pl, if_pos (by rw [<- rfa_plain op h hp]; exact hf)]
theorem rfa0 {op : Nat} {D : List Int} {R : List (Int × Int)} (h : rfa op D R = 0) : tkN op <= D.length /\ D.length - tkN op + lvN op <= 256 /\ kdR ((ksO op R).length == 3) R 0 (ksO op R) = 0 /\ R.length + puN op <= 128 := by
 unfold rfa at h
 by_cases q1 : D.length < tkN op
 ·rw [if_pos q1] at h; cases h
 rw [if_neg q1] at h
 by_cases q2 : 256 < D.length - tkN op + lvN op
 ·rw [if_pos q2] at h; cases h
 rw [if_neg q2] at h
 by_cases q3 : kdR ((ksO op R).length == 3) R 0 (ksO op R) = 0
 ·rw [if_neg (fun c => c q3)] at h
  by_cases q4 : 128 < R.length + puN op
  ·rw [if_pos q4] at h; cases h
  ·exact ⟨by omega, by omega, q3, by omega⟩
 ·rw [if_pos q3] at h; exact absurd h q3
theorem look_c (v : VS) (h : Vf v) : C.C (look v).x := by
 have z : C.C 0 := ⟨by decide, by decide⟩
 unfold look
 split
 ·unfold look0
  cases h1 : cel v.code v.pc with
  | none => exact z
  | some w =>
   simp only; unfold look1
   cases h2 : cel v.code w with
   | none => exact z
   | some op =>
    simp only; unfold look2
    split
    ·exact z
    ·cases h3 : opd v.code v.pc w op.toNat with
     | none => exact z
     | some x =>
      simp only; unfold opd at h3
      split at h3
      ·exact cel_r h3
      ·split at h3
       ·exact cel_r h3
       ·split at h3
        ·cases h3; exact rng _
        ·cases h3; exact z
 ·exact z
set_option maxRecDepth 100000
theorem last_cases {α : Type} (l : List α) : l = [] \/ ∃ t a, l = t ++ [a] := by
 rcases List.eq_nil_or_concat l with h | ⟨t, a, h⟩
 ·exact .inl h
 ·exact .inr ⟨t, a, by simpa using h⟩
theorem kAt_0 (t : List (Int × Int)) (a : Int × Int) : kAt (t ++ [a]) 0 = a.1 := by
 unfold kAt
 simp
theorem kAt_1 (t : List (Int × Int)) (a c : Int × Int) : kAt (t ++ [a] ++ [c]) 1 = a.1 := by
 unfold kAt
 simp
theorem dn_f (op : Nat) (o1 : 1 <= op) (o2 : op <= 63) (x be : Int) (v : VS) (dl : v.D.length <= 256) (rl : v.R.length <= 128) : (dn op x be v).f = rfa op v.D v.R := by
 by_cases hp : P.plain op = true
 ·rw [dn_plain op hp, rfa_plain op o2 hp]; rfl
 ·have h : op = 1 \/ op = 2 \/ op = 3 \/ op = 4 \/ op = 5 \/ op = 7 \/ op = 8 \/ op = 10 \/ op = 11 := by
   unfold P.plain at hp; simp only [Bool.or_eq_true, Bool.and_eq_true, beq_iff_eq, decide_eq_true_eq] at hp
   omega
  rcases h with rfl | rfl | rfl | rfl | rfl | rfl | rfl | rfl | rfl
  ·show (if 128 < v.R.length + 1 then (⟨be, 4, v⟩ : DN) else _).f = _
   by_cases q : 128 < v.R.length + 1
   ·rw [if_pos q]; simp [rfa, tkN, lvN, puN, ksO, lkL, kdR]; omega
   ·rw [if_neg q]; simp [rfa, tkN, lvN, puN, ksO, lkL, kdR]; omega
  ·show (if 256 < v.D.length + 1 then (⟨be, 2, v⟩ : DN) else _).f = _
   by_cases q : 256 < v.D.length + 1
   ·rw [if_pos q]; simp [rfa, tkN, lvN, puN, ksO, lkL, kdR]; omega
   ·rw [if_neg q]; simp [rfa, tkN, lvN, puN, ksO, lkL, kdR]; omega
  ·show (if 256 < v.D.length + 1 then (⟨be, 2, v⟩ : DN) else _).f = _
   by_cases q : 256 < v.D.length + 1
   ·rw [if_pos q]; simp [rfa, tkN, lvN, puN, ksO, lkL, kdR]; omega
   ·rw [if_neg q]; simp [rfa, tkN, lvN, puN, ksO, lkL, kdR]; omega
  ·show (0 : Int) = _
   simp [rfa, tkN, lvN, puN, ksO, lkL, kdR]; omega
  ·show (match v.D.reverse with
    | [] => (⟨be, 1, v⟩ : DN)
    | a :: t => ⟨if a = 0 then x else be, 0, { v with D := t.reverse }⟩).f = _
   rcases last_cases v.D with h | ⟨t, a, h⟩
   ·rw [h]; rfl
   ·have hl : v.D.length = t.length + 1 := by rw [h]; simp
    have hr : v.D.reverse = a :: t.reverse := by rw [h]; simp
    rw [hr]
    simp [rfa, tkN, lvN, puN, ksO, lkL, kdR, hl]; try omega
  ·show (if (turn v).b then (⟨x, 0, (turn v).v⟩ : DN) else ⟨be, (turn v).f, (turn v).v⟩).f = _
   unfold turn
   rcases last_cases v.R with h | ⟨t, ⟨k, i⟩, h⟩
   ·rw [h]; simp [rfa, tkN, lvN, puN, ksO, lkL, kdR]; omega
   ·have hr : v.R.reverse = (k, i) :: t.reverse := by rw [h]; simp
    have h0 : ¬ v.R.length <= 0 := by rw [h]; simp
    have k0 : kAt v.R 0 = k := by rw [h, kAt_0]
    rw [hr]
    by_cases q1 : k = 3
    ·rcases last_cases t with h2 | ⟨t2, ⟨k2, l⟩, h2⟩
     ·have h1 : v.R.length <= 1 := by rw [h, h2]; simp
      subst h2
      simp [rfa, tkN, lvN, puN, ksO, lkL, kdR, h0, k0, q1, h1]; omega
     ·have h1 : ¬ v.R.length <= 1 := by rw [h, h2]; simp
      have k1 : kAt v.R 1 = k2 := by rw [h, h2, kAt_1]
      have hr2 : t.reverse = (k2, l) :: t2.reverse := by rw [h2]; simp
      rw [hr2]
      by_cases q2 : k2 = 2
      ·simp [rfa, tkN, lvN, puN, ksO, lkL, kdR, h0, k0, q1, h1, k1, q2]
       by_cases q3 : (i + 1) % 65536 = l
       ·simp [q3]; omega
       ·simp [q3]; omega
      ·simp [rfa, tkN, lvN, puN, ksO, lkL, kdR, h0, k0, q1, h1, k1, q2]; omega
    ·simp [rfa, tkN, lvN, puN, ksO, lkL, kdR, h0, k0, q1]; omega
  ·show (match v.R.reverse with
    | [] => (⟨be, 0, { v with st := 2 }⟩ : DN)
    | (k, a) :: t => if k = 1 then ⟨a, 0, { v with R := t.reverse }⟩ else ⟨0, 5, v⟩).f = _
   rcases last_cases v.R with h | ⟨t, ⟨k, i⟩, h⟩
   ·rw [h]; simp [rfa, tkN, lvN, puN, ksO, lkL, kdR]; omega
   ·have hr : v.R.reverse = (k, i) :: t.reverse := by rw [h]; simp
    have h0 : ¬ v.R.length <= 0 := by rw [h]; simp
    have h1 : 0 < v.R.length := by omega
    have k0 : kAt v.R 0 = k := by rw [h, kAt_0]
    rw [hr]
    by_cases q1 : k = 1
    ·simp [rfa, tkN, lvN, puN, ksO, lkL, kdR, h0, h1, k0, q1]; omega
    ·simp [rfa, tkN, lvN, puN, ksO, lkL, kdR, h0, h1, k0, q1]; omega
  ·show (0 : Int) = _
   simp [rfa, tkN, lvN, puN, ksO, lkL, kdR]; omega
  ·show (0 : Int) = _
   simp [rfa, tkN, lvN, puN, ksO, lkL, kdR]; omega
end Go.Proofs.YteldjmecomngeaaGreat.V
