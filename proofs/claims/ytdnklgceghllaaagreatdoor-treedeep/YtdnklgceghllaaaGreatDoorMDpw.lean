import Derived.Test.YtdnklgceghllaaaGreatDoorMDpt
import Derived.ProofKit
import Derived.OpenShut
import Derived.LaidMore
import Derived.Deep.DeepHandedRow
import Derived.Lib.LaidTab
import Derived.Stop.LaidErr
import Derived.ChangeOld
import Derived.Below
import Derived.WalkKit
import Derived.Laws.BytesArg
set_option linter.unusedSimpArgs false
set_option linter.unusedVariables false
open Go.RowKit
open Go.Proofs
namespace Go.Proofs.YtdnklgceghllaaaGreatDoor
namespace M
open Go.Proofs.YtdnklgceghllaaaGreatDoor.K (Tk ans sc tk)
open Go.Proofs.YtdnklgceghllaaaGreatDoor.Y (Nd Df Ps Bk hid)
open Go.Proofs.YtdnklgceghllaaaGreatDoor.D (tkc isW)
set_option maxHeartbeats 4000000
set_option maxRecDepth 100000
theorem psF : Tryz.prog.underlying 28 = some (.struct (Tryz.prog.fieldsOf 28)) /\ Tryz.prog.fieldsOf 28 = #[⟨ "Line", 3, 0, false, "", "", 0⟩, ⟨ "Col", 3, 1, false, "", "", 8⟩] /\ Tryz.prog.stoodInHeld 28 = false /\ Tryz.prog.cellsOf 3 = 1 :=
 ⟨by kernel_rfl, by kernel_rfl, by kernel_rfl, by kernel_rfl⟩
theorem eql_ps (W : World) (a b u v : Int) : (binOp .eql 28 (.agg #[.int .i64 a, .int .i64 b]) (.agg #[.int .i64 u, .int .i64 v])).run Tryz.prog W = .ok (.bool (a == u && b == v)) W := by
 obtain ⟨hs, hf, hp, k3⟩ := psF
 rw [run_eql_struct, run_equalIn_agg W 9999 _ _ _ hs hp, hf]
 cases h1 : (a == u) <;> cases h2 : (b == v) <;> simp [go_sem, Tryz.underlying3, k3, Result.andThen, h1, h2]
end M
namespace M
open Go.Proofs.YtdnklgceghllaaaGreatDoor.K (Tk ans sc tk)
open Go.Proofs.YtdnklgceghllaaaGreatDoor.Y (Nd Df Ps Bk hid NV NA N1 ZV ndc dfc D1 DV BV e0)
open Go.Proofs.YtdnklgceghllaaaGreatDoor.D (RdO Er)
open Go.Proofs.YtdnklgceghllaaaGreatDoor.R (chk)
set_option maxHeartbeats 4000000
set_option maxRecDepth 100000
def kmod (z : Int) : Nat := ((z.tmod 5 + 5).tmod 5).toNat
theorem mod_five (z : Int) : ∃ r : Int, z.tmod 5 = r /\ wrap64 (r + 5) = r + 5 /\ (r + 5).tmod 5 = ((kmod z : Nat) : Int) /\ kmod z < 5 := by
 have h1 := Int.tmod_lt_of_pos z (show (0 : Int) < 5 by decide)
 have h2 := Int.lt_tmod_of_pos z (show (0 : Int) < 5 by decide)
 refine ⟨z.tmod 5, rfl, by unfold wrap64; omega, ?_, ?_⟩
 ·unfold kmod
  rw [Int.tmod_eq_emod_of_nonneg (by omega)]
  omega
 ·unfold kmod
  rw [Int.tmod_eq_emod_of_nonneg (by omega)]
  omega
theorem mod_forty (z : Int) : ∃ (r : Int) (m : Nat), z.tmod 40 = r /\ wrap64 (r + 40) = r + 40 /\ (r + 40).tmod 40 = (m : Int) /\ m < 40 := by
 have h1 := Int.tmod_lt_of_pos z (show (0 : Int) < 40 by decide)
 have h2 := Int.lt_tmod_of_pos z (show (0 : Int) < 40 by decide)
 refine ⟨z.tmod 40, ((z.tmod 40 + 40).tmod 40).toNat, rfl, by unfold wrap64; omega, ?_, ?_⟩
 ·rw [Int.tmod_eq_emod_of_nonneg (by omega)]
  omega
 ·rw [Int.tmod_eq_emod_of_nonneg (by omega)]
  omega
theorem ig_fun {W : World} {p : Option Addr} {n : Nat} (h : IG W p n) : ∃ f : Nat -> Int, ∀ i, i < n -> ∃ b o, p = some ⟨b, o, none⟩ /\ W.cell? ⟨b, o + i, none⟩ = some (.int .i64 (f i)) := by
 have hx : ∀ i : Nat, ∃ z : Int, i < n -> ∃ b o, p = some ⟨b, o, none⟩ /\ W.cell? ⟨b, o + i, none⟩ = some (.int .i64 z) := fun i => by
  by_cases hi : i < n
  ·obtain ⟨b, o, z, e, hc, _⟩ := h i hi
   exact ⟨z, fun _ => ⟨b, o, e, hc⟩⟩
  ·exact ⟨0, fun h => absurd h hi⟩
 obtain ⟨f, hf⟩ := Classical.skolem.1 hx
 exact ⟨f, hf⟩
def kk (KF : Nat -> Nat) (k : Nat) : List Nat := (List.range k).map KF
theorem kk_succ (KF : Nat -> Nat) (k : Nat) : kk KF (k + 1) = kk KF k ++ [KF k] := by unfold kk; rw [List.range_succ, List.map_append]; rfl
theorem kk_len (KF : Nat -> Nat) (k : Nat) : (kk KF k).length = k := by unfold kk; rw [List.length_map, List.length_range]
theorem kk_five {KF : Nat -> Nat} (h : ∀ i, KF i < 5) (k : Nat) : ∀ x ∈ kk KF k, x < 5 := fun x hx => by
 unfold kk at hx
 obtain ⟨i, _, rfl⟩ := List.mem_map.1 hx
 exact h i
def opT (k : Nat) : ByteArray := if k = 0 \/ k = 4 then ⟨#[105, 102, 32]⟩ else ⟨#[98, 101, 103, 105, 110, 32]⟩
def shT (k : Nat) : ByteArray := if k = 0 then ⟨#[116, 104, 101, 110, 32]⟩ else if k = 1 then ⟨#[117, 110, 116, 105, 108, 32]⟩ else if k = 2 then ⟨#[119, 104, 105, 108, 101, 32, 114, 101, 112, 101, 97, 116, 32]⟩ else if k = 3 then ⟨#[97, 103, 97, 105, 110, 32]⟩ else ⟨#[101, 108, 115, 101, 32, 116, 104, 101, 110, 32]⟩
def opA : Array Value := #[.string ⟨#[105, 102, 32]⟩, .string ⟨#[98, 101, 103, 105, 110, 32]⟩, .string ⟨#[98, 101, 103, 105, 110, 32]⟩, .string ⟨#[98, 101, 103, 105, 110, 32]⟩, .string ⟨#[105, 102, 32]⟩]
def shA : Array Value := #[.string ⟨#[116, 104, 101, 110, 32]⟩, .string ⟨#[117, 110, 116, 105, 108, 32]⟩, .string ⟨#[119, 104, 105, 108, 101, 32, 114, 101, 112, 101, 97, 116, 32]⟩, .string ⟨#[97, 103, 97, 105, 110, 32]⟩, .string ⟨#[101, 108, 115, 101, 32, 116, 104, 101, 110, 32]⟩]
theorem opT_fl {k : Nat} (h : k < 5) : (opT k).data.toList = fl [opw k] /\ (opT k).size <= 6 /\ opA[k]? = some (.string (opT k)) := by
 rcases five h with rfl | rfl | rfl | rfl | rfl <;> exact ⟨rfl, by decide, rfl⟩
theorem shT_fl {k : Nat} (h : k < 5) : (shT k).data.toList = fl (shw k) /\ (shT k).size <= 13 /\ shA[k]? = some (.string (shT k)) := by
 rcases five h with rfl | rfl | rfl | rfl | rfl <;> exact ⟨rfl, by decide, rfl⟩
def Lc (KF : Nat -> Nat) (k : Nat) : Nat := (fl (((kk KF k).take 32).map opw)).length
theorem lc_few (KF : Nat -> Nat) (k : Nat) : Lc KF k <= 1024 := by
 have h1 := fl_few (((kk KF k).take 32).map opw) fun w hw => by
  obtain ⟨x, _, rfl⟩ := List.mem_map.1 hw
  exact gw_op x
 rw [List.length_map, List.length_take] at h1
 unfold Lc
 omega
theorem lc_step {KF : Nat -> Nat} (h : ∀ i, KF i < 5) {k : Nat} (hk : k < 32) : Lc KF (k + 1) = Lc KF k + (opT (KF k)).size := by
 unfold Lc
 rw [kk_succ, List.take_of_length_le (by rw [List.length_append, kk_len]; simp; omega), List.take_of_length_le (by rw [kk_len]; omega), List.map_append, fl_app, List.length_append, size_of_list, (opT_fl (h k)).1]
 rfl
theorem lc_stay {KF : Nat -> Nat} {k : Nat} (hk : 32 <= k) : Lc KF (k + 1) = Lc KF k := by
 unfold Lc
 rw [kk_succ, List.take_append_of_le_length (by rw [kk_len]; exact hk)]
structure DL (KF : Nat -> Nat) (k : Nat) (S1 E1 : ByteArray) : Prop where
 src : S1.data.toList = fl ([wColon, mn] ++ (kk KF k).map opw)
 fin : E1.data.toList = fl (cls (kk KF k))
 s1 : S1.size <= 100 + 20 * k
 e1 : E1.size <= 20 * k
theorem dl_zero (KF : Nat -> Nat) : DL KF 0 ⟨#[58, 32, 109, 97, 105, 110, 32]⟩ ⟨#[]⟩ := ⟨rfl, rfl, by decide, by decide⟩
theorem dl_step {KF : Nat -> Nat} (h : ∀ i, KF i < 5) {k : Nat} {S1 E1 : ByteArray} (d : DL KF k S1 E1) : DL KF (k + 1) (S1 ++ opT (KF k)) (shT (KF k) ++ E1) := by
 obtain ⟨a1, a2, _⟩ := opT_fl (h k)
 obtain ⟨b1, b2, _⟩ := shT_fl (h k)
 have := d.s1
 have := d.e1
 refine ⟨?_, ?_, by rw [ByteArray.size_append]; omega, by rw [ByteArray.size_append]; omega⟩
 ·rw [ByteArray.data_append, Array.toList_append, d.src, a1, kk_succ, List.map_append, <- List.append_assoc, fl_app _ ([KF k].map opw)]
  rfl
 ·rw [ByteArray.data_append, Array.toList_append, d.fin, b1, kk_succ, cls_snoc, fl_app]
def On (W2 w : World) (g : Nat) : Prop := W2.heap.size <= g /\ g < w.heap.size
theorem nest_put {W2 wr : World} {ks : List Nat} {kv : Nat} {v : Value} (o0 : Obj) (c1 : Array Value) (t : TypeId) (hN : NV wr (On W2 wr) v (nest ks)) (hB : Below W2.heap.size W2 wr) (h1 : c1 = (ndc ⟨nk kv, 0, 0, e0, nest ks, [], kv == 4, (0, 0)⟩ v (.slice none 0 0)).toArray) :
  NV ((wr.alloc o0).alloc (.cells c1 t)) (On W2 ((wr.alloc o0).alloc (.cells c1 t))) (.slice (some ⟨wr.heap.size + 1, 0, none⟩) 1 1) (nest (kv :: ks)) /\ Below W2.heap.size W2 ((wr.alloc o0).alloc (.cells c1 t)) := by
 have hb : Below wr.heap.size wr ((wr.alloc o0).alloc (.cells c1 t)) := ((Below.refl _ _).alloc (Nat.le_refl _) _).alloc (by simp) _
 have u1 : ((wr.alloc o0).alloc (.cells c1 t)).heap[wr.heap.size + 1]? = some (.cells c1 t (0, 0)) := heap_alloc2_new wr _ _
 have hlt := (Array.getElem?_eq_some_iff.1 u1).1
 have hs := hB.size
 generalize (wr.alloc o0).alloc (.cells c1 t) = WB at *
 refine ⟨?_, hB.trans (hb.mono hB.size)⟩
 have hk : NV WB (On W2 WB) v (nest ks) := hN.kept (fun i hi => hb.block i hi.2) fun i hi => ⟨hi.1, Nat.lt_trans hi.2 (by omega)⟩
 rw [nest]
 refine NV.row (c := 1) ⟨by omega, hlt⟩ (by simp) (NA.cons (N1.mk v (.slice none 0 0) (fun j x hx => ?_) hk (NV.nil (.inl rfl))) (NA.nil _ _ _ _))
 subst h1
 have := S.cell_of WB (wr.heap.size + 1) j _ t x u1 hx
 simpa using this
theorem dfn_dv {W2 w : World} {ks : List Nat} {v : Value} (c : Array Value) (t : TypeId) (hN : NV w (On W2 w) v (nest ks)) (hB : Below W2.heap.size W2 w) (h1 : c = (dfc (dfn ks) v).toArray) :
  DV (w.alloc (.cells c t)) (On W2 (w.alloc (.cells c t))) (.slice (some ⟨w.heap.size, 0, none⟩) 1 1) [dfn ks] := by
 have hb : Below w.heap.size w (w.alloc (.cells c t)) := (Below.refl _ _).alloc (Nat.le_refl _) _
 have u1 : (w.alloc (.cells c t)).heap[w.heap.size]? = some (.cells c t (0, 0)) := heap_alloc_new w _
 have hlt := (Array.getElem?_eq_some_iff.1 u1).1
 have hs := hB.size
 generalize w.alloc (.cells c t) = WB at *
 refine ⟨some ⟨w.heap.size, 0, none⟩, 1, rfl, by simp, fun i d hi => ?_⟩
 have hi0 : i = 0 := by
  rcases i with _ | i
  ·rfl
  ·simp at hi
 subst hi0
 simp at hi
 subst hi
 refine ⟨w.heap.size, 0, rfl, ⟨by omega, hlt⟩, v, fun j x hx => ?_, hN.kept (fun i hi => hb.block i hi.2) fun i hi => ⟨hi.1, Nat.lt_trans hi.2 hlt⟩⟩
 subst h1
 have := S.cell_of WB w.heap.size j _ t x u1 hx
 simpa using this
theorem nv_on {W2 wr W : World} {v : Value} {l : List Nd} (h : NV wr (On W2 wr) v l) (k : Below wr.heap.size wr W) : NV W (On W2 W) v l := h.kept (fun i hi => k.block i hi.2) fun i hi => ⟨hi.1, Nat.lt_of_lt_of_le hi.2 k.size⟩
theorem dfn_nm (ks : List Nat) : ∀ d ∈ [dfn ks], d.nm.size <= maxLen := fun d hd => by
 rw [List.mem_singleton] at hd
 subst hd
 show mn.size <= maxLen
 decide
theorem deep_text {KF : Nat -> Nat} {k : Nat} {S1 E1 : ByteArray} (d : DL KF k S1 E1) : (S1 ++ E1 ++ ⟨#[59]⟩).data.toList = fl (dpw (kk KF k)) ++ [59] /\ (S1 ++ E1 ++ ⟨#[59]⟩).size = S1.size + E1.size + 1 := by
 constructor
 ·simp only [ByteArray.data_append, Array.toList_append, d.src, d.fin]
  unfold dpw
  rw [<- List.append_assoc [wColon, mn], fl_app _ (cls (kk KF k))]
 ·rw [ByteArray.size_append, ByteArray.size_append]
  rfl
theorem deep_walk (p : Option Addr) (n c : Nat) (z : Int) (W : World) (hT : P10 W) (hI : IG W p n) : Calls Tryz.prog 5 #[.slice p n c, .int .i64 z] W fun e w' => e = .returned (.bool true) /\ Below W.heap.size W w' := by
 have hc0 := fixed_any W hT
 obtain ⟨f, hf⟩ := ig_fun hI
 obtain ⟨KF, hKF⟩ : ∃ KF : Nat -> Nat, ∀ i, (n = 0 -> KF i = 0) /\ (n ≠ 0 -> KF i = kmod (f (i % n))) /\ KF i < 5 := by
  refine ⟨fun i => if n = 0 then 0 else kmod (f (i % n)), fun i => ⟨fun h => if_pos h, fun h => if_neg h, ?_⟩⟩
  show (if n = 0 then 0 else kmod (f (i % n))) < 5
  split
  ·decide
  ·exact (mod_five _).choose_spec.2.2.2
 obtain ⟨r, m, m1, m2, m3, m4⟩ := mod_forty z
 have HI := hid hf
 have HK := hid hKF
 have HF := hid (fun i => (hKF i).2.2)
 have HM := hid m4
 clear hT hI hf hKF m4
 go_enter Tryz.func5, Tryz.ntmps5
 go_wp2_with fail
 refine hc0.mono ?_
 rintro e w0 ⟨rfl, hb0⟩
 obtain ⟨W2, hW2⟩ : ∃ W2, (w0.alloc (.cells opA 9)).alloc (.cells shA 9) = W2 := ⟨_, rfl⟩
 have hb2 : Below w0.heap.size w0 W2 := by rw [<- hW2]; exact ((Below.refl _ _).alloc (Nat.le_refl _) _).alloc (by simp) _
 have u0 : W2.heap[w0.heap.size]? = some (.cells opA 9 (0, 0)) := by rw [<- hW2, Below.heap_alloc _ _ _ (by simp)]; exact heap_alloc_new w0 _
 have u1 : W2.heap[w0.heap.size + 1]? = some (.cells shA 9 (0, 0)) := by rw [<- hW2]; exact heap_alloc2_new w0 _ _
 have HB2 := hid (hb0.trans (hb2.mono hb0.size))
 have hIW : ∀ i, i < n -> ∃ b o, p = some ⟨b, o, none⟩ /\ W2.cell? ⟨b, o + i, none⟩ = some (.int .i64 (f i)) := fun i hi => by
  obtain ⟨b, o, e1, e2⟩ := HI.out i hi
  exact ⟨b, o, e1, by rw [HB2.out.cell (World.block_lt_of_cell? W _ e2)]; exact e2⟩
 have HI2 := hid hIW
 have HX := hid (fun (k : Nat) (hk : k < 5) => show W2.cell? ⟨w0.heap.size, k, none⟩ = some (.string (opT k)) /\ W2.cell? ⟨w0.heap.size + 1, k, none⟩ = some (.string (shT k)) from
  ⟨S.cell_of W2 _ k opA.toList 9 _ u0 (by have := (opT_fl hk).2.2; rwa [Array.getElem?_toList]), S.cell_of W2 _ k shA.toList 9 _ u1 (by have := (shT_fl hk).2.2; rwa [Array.getElem?_toList])⟩)
 have HW2 := hid (show (w0.alloc (.cells #[.string ⟨#[105, 102, 32]⟩, .string ⟨#[98, 101, 103, 105, 110, 32]⟩, .string ⟨#[98, 101, 103, 105, 110, 32]⟩, .string ⟨#[98, 101, 103, 105, 110, 32]⟩, .string ⟨#[105, 102, 32]⟩] 9)).alloc (.cells #[.string ⟨#[116, 104, 101, 110, 32]⟩, .string ⟨#[117, 110, 116, 105, 108, 32]⟩, .string ⟨#[119, 104, 105, 108, 101, 32, 114, 101, 112, 101, 97, 116, 32]⟩, .string ⟨#[97, 103, 97, 105, 110, 32]⟩, .string ⟨#[101, 108, 115, 101, 32, 116, 104, 101, 110, 32]⟩] 9) = W2 from hW2)
 have hm40 := HM.out
 clear hc0 hb0 hb2 u0 u1 hIW hW2 HI
 go_wp2_with fail
 rw [HW2.out]
 rw [m2]
 clear m1 m2 m3
 generalize w0.heap.size = B at *
 go_loopw [7, 8, 9, 11] (fun s e c i wr => ∃ (k : Nat) (S1 E1 : ByteArray), i = .int .i64 (k : Int) /\ k <= m /\ s = .string S1 /\ e = .string E1 /\ c = .int .i64 (8 + (Lc KF k : Int)) /\ DL KF k S1 E1 /\ wr = W2) (fun _ _ _ i _ => m - (intOf i).toNat)
 case atStart => exact ⟨0, _, _, rfl, Nat.zero_le _, rfl, rfl, rfl, dl_zero KF, rfl⟩
 case round =>
  obtain ⟨k, S1, E1, rfl, hk, rfl, rfl, rfl, hD, hwr⟩ := hrel
  obtain rfl := hwr.symm
  have HD := hid hD
  clear hD
  by_cases hlt : k < m
  case pos =>
   have i1 : (k : Int) < (m : Int) := by omega
   have hk5 := HF.out k
   have hst := hid (dl_step HF.out HD.out)
   have hK := HK.out k
   go_upto_if 35 with fail
   go_cut [12] (fun x wc => x = .int .i64 ((KF k : Nat) : Int) /\ wc = W2)
   case first =>
    by_cases hn : n = 0
    ·subst hn
     go_wp2
     go_meet
     case rel => exact ⟨by rw [hK.1 trivial]; rfl, rfl⟩
    ·have hm : k % n < n := Nat.mod_lt _ (by omega)
     obtain ⟨b2, o2, rfl, c2⟩ := HI2.out (k % n) hm
     obtain ⟨r5, q1, q2, q3, q4⟩ := mod_five (f (k % n))
     rw [<- hK.2.1 hn] at q3
     have d1 : decide ((0 : Int) < (n : Int)) = true := decide_eq_true (by omega)
     have d2 : (0 : Int) < (n : Int) := by omega
     have d3 : ¬ (n : Int) = 0 := by omega
     have d4 : (k : Int).tmod (n : Int) = ((k % n : Nat) : Int) := (Int.ofNat_tmod k n).symm
     have d5 : ((k % n : Nat) : Int) < (n : Int) := by omega
     clear hK q4 hst
     generalize k % n = kn at *
     generalize f kn = fz at *
     go_wp2
     go_meet
     case rel => exact ⟨rfl, rfl⟩
   case rest =>
    obtain ⟨rfl, hwc⟩ := hcut
    obtain rfl := hwc.symm
    obtain ⟨x0, x1⟩ := HX.out (KF k) hk5
    have z0 := (opT_fl hk5).2.1
    have z1 := (shT_fl hk5).2.1
    have z2 := HD.out.s1
    have z3 := HD.out.e1
    have z4 := lc_few KF k
    have n1 : ¬ 9223372036854775807 < S1.size + (opT (KF k)).size := by omega
    have n2 : ¬ 9223372036854775807 < (shT (KF k)).size + E1.size := by omega
    have o1 : ((KF k : Nat) : Int) < 5 := by omega
    have hs1 := fun h => lc_step HF.out (k := k) h
    have hs2 := fun h => lc_stay (KF := KF) (k := k) h
    have HS := hid (And.intro hs1 hs2)
    clear hK z1 z2 z3 hs1 hs2
    generalize opT (KF k) = oT at *
    generalize shT (KF k) = sT at *
    generalize KF k = kv at *
    by_cases h32 : k < 32
    ·have i2 : (k : Int) < 32 := by omega
     have e8 := HS.out.1 h32
     clear HS
     go_wp2_with fail
     go_roundw
     case rel => exact ⟨k + 1, _, _, by simp, by omega, rfl, rfl, by rw [e8]; simp; omega, hst.out, trivial⟩
     case measure => simp only [intOf]; omega
    ·have i2 : ¬ (k : Int) < 32 := by omega
     have e8 := HS.out.2 (by omega)
     clear HS
     go_wp2_with fail
     go_roundw
     case rel => exact ⟨k + 1, _, _, by simp, by omega, rfl, rfl, by rw [e8], hst.out, trivial⟩
     case measure => simp only [intOf]; omega
  case neg =>
   have hkm : k = m := by omega
   subst hkm
   have i1 : ¬ (k : Int) < (k : Int) := by omega
   have i9 : wrap64 ((k : Int) - 1) = (k : Int) - 1 := by unfold wrap64; omega
   clear hk hlt
   go_wp2_with fail
   go_loopw [10, 13] (fun b i wr => ∃ (j : Nat) (x : Int), i = .int .i64 x /\ x = (j : Int) - 1 /\ j <= k /\ NV wr (On W2 wr) b (nest ((kk KF k).drop j)) /\ Below W2.heap.size W2 wr) (fun _ i _ => (intOf i + 1).toNat)
   case atStart =>
    refine ⟨k, _, rfl, rfl, Nat.le_refl _, ?_, Below.refl _ _⟩
    rw [List.drop_of_length_le (by rw [kk_len]; omega)]
    exact NV.nil (.inl rfl)
   case round =>
    obtain ⟨j, x, rfl, hx, hj, hN, hB⟩ := hrel
    have HN := hid hN
    have HB := hid hB
    clear hN hB i9 i1
    by_cases h0 : j = 0
    case neg =>
     obtain ⟨j', rfl⟩ : ∃ j', j = j' + 1 := ⟨j - 1, by omega⟩
     obtain rfl : x = (j' : Int) := by omega
     clear h0 hx
     have i2 : (0 : Int) <= (j' : Int) := by omega
     have i3 : wrap64 ((j' : Int) - 1) = (j' : Int) - 1 := by unfold wrap64; omega
     have hk5 := HF.out j'
     have hK := HK.out j'
     go_upto_if 75 with fail
     go_cut [14] (fun x wc => x = .int .i64 ((KF j' : Nat) : Int) /\ wc = wr)
     case first =>
      by_cases hn : n = 0
      ·subst hn
       go_wp2
       go_meet
       case rel => exact ⟨by rw [hK.1 trivial]; rfl, rfl⟩
      ·have hm : j' % n < n := Nat.mod_lt _ (by omega)
       obtain ⟨b2, o2, rfl, c2⟩ := HI2.out (j' % n) hm
       have c3 : wr.cell? ⟨b2, o2 + j' % n, none⟩ = some (.int .i64 (f (j' % n))) := by
        rw [HB.out.cell (World.block_lt_of_cell? W2 _ c2)]
        exact c2
       obtain ⟨r5, q1, q2, q3, q4⟩ := mod_five (f (j' % n))
       rw [<- hK.2.1 hn] at q3
       have d1 : decide ((0 : Int) < (n : Int)) = true := decide_eq_true (by omega)
       have d2 : (0 : Int) < (n : Int) := by omega
       have d3 : ¬ (n : Int) = 0 := by omega
       have d4 : (j' : Int).tmod (n : Int) = ((j' % n : Nat) : Int) := (Int.ofNat_tmod j' n).symm
       have d5 : ((j' % n : Nat) : Int) < (n : Int) := by omega
       clear hK q4 c2
       generalize j' % n = kn at *
       generalize f kn = fz at *
       go_wp2
       go_meet
       case rel => exact ⟨rfl, rfl⟩
     case rest =>
      obtain ⟨rfl, hwc⟩ := hcut
      obtain rfl := hwc.symm
      clear hK
      obtain ⟨p10, c10, hv, _, _⟩ := HN.out.ex
      subst hv
      have hdrop : (kk KF k).drop j' = KF j' :: (kk KF k).drop (j' + 1) := by
       rw [List.drop_eq_getElem_cons (by rw [kk_len]; omega)]
       congr 1
       unfold kk
       rw [List.getElem_map, List.getElem_range]
      have HD2 := hid hdrop
      clear hdrop
      generalize KF j' = kv at *
      generalize hln : (nest ((kk KF k).drop (j' + 1))).length = ln at *
      have HLN := hid hln
      clear hln
      rcases five hk5 with rfl | rfl | rfl | rfl | rfl
      ·go_wp2_with fail
       go_roundw
       case rel =>
        refine ⟨j', _, rfl, rfl, by omega, ?_, ?_⟩
        ·rw [HD2.out]
         refine (nest_put _ _ _ HN.out HB.out ?_).1; rfl
        ·exact (nest_put (kv := 0) (ks := (kk KF k).drop (j' + 1)) _ _ _ HN.out HB.out rfl).2
       case measure => simp only [intOf]; omega
      ·go_wp2_with fail
       go_roundw
       case rel =>
        refine ⟨j', _, rfl, rfl, by omega, ?_, ?_⟩
        ·rw [HD2.out]
         refine (nest_put _ _ _ HN.out HB.out ?_).1; rfl
        ·exact (nest_put (kv := 1) (ks := (kk KF k).drop (j' + 1)) _ _ _ HN.out HB.out rfl).2
       case measure => simp only [intOf]; omega
      ·go_wp2_with fail
       go_roundw
       case rel =>
        refine ⟨j', _, rfl, rfl, by omega, ?_, ?_⟩
        ·rw [HD2.out]
         refine (nest_put _ _ _ HN.out HB.out ?_).1; rfl
        ·exact (nest_put (kv := 2) (ks := (kk KF k).drop (j' + 1)) _ _ _ HN.out HB.out rfl).2
       case measure => simp only [intOf]; omega
      ·go_wp2_with fail
       go_roundw
       case rel =>
        refine ⟨j', _, rfl, rfl, by omega, ?_, ?_⟩
        ·rw [HD2.out]
         refine (nest_put _ _ _ HN.out HB.out ?_).1; rfl
        ·exact (nest_put (kv := 3) (ks := (kk KF k).drop (j' + 1)) _ _ _ HN.out HB.out rfl).2
       case measure => simp only [intOf]; omega
      ·go_wp2_with fail
       go_roundw
       case rel =>
        refine ⟨j', _, rfl, rfl, by omega, ?_, ?_⟩
        ·rw [HD2.out]
         refine (nest_put _ _ _ HN.out HB.out ?_).1; rfl
        ·exact (nest_put (kv := 4) (ks := (kk KF k).drop (j' + 1)) _ _ _ HN.out HB.out rfl).2
       case measure => simp only [intOf]; omega
    case pos =>
     subst h0
     obtain rfl : x = -1 := by omega
     have hN0 := HN.out
     rw [List.drop_zero] at hN0
     obtain ⟨p10, c10, hv, _, _⟩ := hN0.ex
     subst hv
     generalize hln : (nest (kk KF k)).length = ln at *
     have hN1 := hN0
     have hT := deep_text HD.out
     have z2 := HD.out.s1
     have z3 := HD.out.e1
     have z4 := lc_few KF k
     have n1 : ¬ 9223372036854775807 < S1.size + E1.size := by omega
     have n2 : ¬ 9223372036854775807 < S1.size + E1.size + 1 := by omega
     obtain ⟨T, hTe⟩ : ∃ T, S1 ++ E1 ++ ⟨#[59]⟩ = T := ⟨_, rfl⟩
     rw [hTe] at hT
     have hc1 := parse_any T (by rw [hT.2]; omega) wr
     have hks := kk_five HF.out k
     have HCK := hid (show chk [dfn (kk KF k)] [] = if k <= 32 then 0 else 109 from by have := chk_nest (kk KF k) hks; rwa [kk_len] at this)
     have i4 : ¬ (0 : Int) <= -1 := by decide
     clear z2 z3 hN0 hx HN HD HX HI2 HK hln
     by_cases h32 : k <= 32
     ·obtain ⟨ds', hp, hsm⟩ := pans_few T (kk KF k) hks (by rw [kk_len]; exact h32) hT.1
      rw [hp] at hc1
      have i5 : ¬ (32 : Int) < (k : Int) := by omega
      have HSM := hid hsm
      have hnb := hN1
      clear hT hp hsm hks
      go_wp2_with fail
      try rw [hTe]
      refine hc1.mono ?_
      rintro e w5 ⟨dv, xv, rfl, hD', hX', hb5⟩
      obtain ⟨p1, c1, e1, _⟩ := id hD'
      obtain ⟨p2, c2, e2, _⟩ := id hX'
      subst e1 e2
      simp only [List.length_nil] at hX' ⊢
      obtain ⟨W6, hW6, hb6, v0, v1⟩ := two_box w5 (.slice p1 ds'.length c1) (.slice p2 0 c2) (.int .i64 0) (.int .i64 0)
      have hb56 := hb5.trans (hb6.mono hb5.size)
      have hN6 := nv_on hnb hb56
      have hB6 := HB.out.trans (hb56.mono HB.out.size)
      have hD7 := dfn_dv #[.int .i64 1, .string ⟨#[109, 97, 105, 110]⟩, .int .u16 0, .slice p10 ln c10, .int .i64 0, .int .i64 0] 45 hN6 hB6 rfl
      have hb7 : Below W6.heap.size W6 (W6.alloc (.cells #[.int .i64 1, .string ⟨#[109, 97, 105, 110]⟩, .int .u16 0, .slice p10 ln c10, .int .i64 0, .int .i64 0] 45)) := (Below.refl _ _).alloc (Nat.le_refl _) _
      obtain ⟨W7, hW7⟩ : ∃ W7, W6.alloc (.cells #[.int .i64 1, .string ⟨#[109, 97, 105, 110]⟩, .int .u16 0, .slice p10 ln c10, .int .i64 0, .int .i64 0] 45) = W7 := ⟨_, rfl⟩
      rw [hW7] at hD7 hb7
      have hc8 := R.check_any [dfn (kk KF k)] [] (dfn_nm _) (by decide) _ _ (On W2 W7) W7 (fun j hj => hj.2) hD7 (bv_nil _ _)
      rw [HCK.out, if_pos (by exact h32)] at hc8
      have HW6 := hid hW6
      have HW7 := hid hW7
      have hb67 := hb56.trans (hb7.mono hb56.size)
      have H67 := hid (And.intro hb67 (And.intro hb7 (And.intro v0 (And.intro hD' (And.intro hX' (And.intro hb5 (hb6)))))))
      clear hc1 hN6 hB6 hD7 hb7 hb67 hb56 hb6 hb5 v0 v1 hW6 hW7 hD' hX'
      go_upto_region 35 with fail
      rw [HW6.out]
      go_wp2_with fail
      rw [HW7.out]
      refine hc8.mono ?_
      rintro e w8 ⟨rfl, hb8⟩
      obtain ⟨hb67, hb7, v0, hD', hX', hb5, hb6⟩ := H67.out
      have hb68 := hb7.trans (hb8.mono hb7.size)
      have hb58 := hb6.trans (hb68.mono hb6.size)
      have hbr8 := hb67.trans (hb8.mono hb67.size)
      have hN8 := nv_on hnb hbr8
      have hB8 := HB.out.trans (hbr8.mono HB.out.size)
      obtain ⟨x0, x1⟩ := box2 v0 hb68
      have hD9 := dfn_dv #[.int .i64 1, .string ⟨#[109, 97, 105, 110]⟩, .int .u16 0, .slice p10 ln c10, .int .i64 0, .int .i64 0] 45 hN8 hB8 rfl
      have hb9 : Below w8.heap.size w8 (w8.alloc (.cells #[.int .i64 1, .string ⟨#[109, 97, 105, 110]⟩, .int .u16 0, .slice p10 ln c10, .int .i64 0, .int .i64 0] 45)) := (Below.refl _ _).alloc (Nat.le_refl _) _
      obtain ⟨W9, hW9⟩ : ∃ W9, w8.alloc (.cells #[.int .i64 1, .string ⟨#[109, 97, 105, 110]⟩, .int .u16 0, .slice p10 ln c10, .int .i64 0, .int .i64 0] 45) = W9 := ⟨_, rfl⟩
      rw [hW9] at hD9 hb9
      have hb59 := hb58.trans (hb9.mono hb58.size)
      have hwr := HB.out.size
      have hws := hb59.size
      have hc9 := same_any ds' [dfn (kk KF k)] [] [] (by decide) _ _ _ _ (On W2 W9) W9 (fun j hj => hj.2) (hD'.kept (fun i hi => hb59.block i hi.2) (fun i hi => ⟨Nat.le_trans hwr hi.1, Nat.lt_of_lt_of_le hi.2 hws⟩)) (hX'.kept (fun i hi => hb59.block i hi.2) (fun i hi => ⟨Nat.le_trans hwr hi.1, Nat.lt_of_lt_of_le hi.2 hws⟩)) hD9 (bv_nil _ _)
      rw [HSM.out, smbs_refl, Bool.and_true] at hc9
      have HW9 := hid hW9
      have HBF := hid ((HB2.out.trans (hB8.mono HB2.out.size)).trans (hb9.mono (HB2.out.trans (hB8.mono HB2.out.size)).size))
      clear hc8 H67 hb67 hb7 v0 hD' hX' hb5 hb6 hb68 hb58 hbr8 hN8 hB8 hD9 hb9 hW9 hb59 hwr hws hb8 hnb hN1
      go_wp2_with fail
      rw [HW9.out]
      refine hc9.mono ?_
      rintro e w10 ⟨rfl, hb10⟩
      have HB10 := hid (HBF.out.trans (hb10.mono HBF.out.size))
      clear hc9 hb10
      go_wp2
      go_ret
      exact ⟨rfl, HB10.out⟩
     ·have hp : pans T = .error ((1, 8 + (Lc KF k : Int)), 109) := pans_many T (kk KF k) hks (by rw [kk_len]; omega) (by rw [kk_len]; omega) hT.1
      rw [hp] at hc1
      have i5 : (32 : Int) < (k : Int) := by omega
      have hnb := hN1
      clear hT hp hks
      generalize Lc KF k = lc at *
      go_wp2_with fail
      try rw [hTe]
      refine hc1.mono ?_
      rintro e w5 ⟨rfl, hb5⟩
      simp only
      obtain ⟨W6, hW6, hb6, v0, v1⟩ := two_box w5 (.slice none 0 0) (.slice none 0 0) (.int .i64 1) (.int .i64 (8 + (lc : Int)))
      have hb56 := hb5.trans (hb6.mono hb5.size)
      have hN6 := nv_on hnb hb56
      have hB6 := HB.out.trans (hb56.mono HB.out.size)
      have hD7 := dfn_dv #[.int .i64 1, .string ⟨#[109, 97, 105, 110]⟩, .int .u16 0, .slice p10 ln c10, .int .i64 0, .int .i64 0] 45 hN6 hB6 rfl
      have hb7 : Below W6.heap.size W6 (W6.alloc (.cells #[.int .i64 1, .string ⟨#[109, 97, 105, 110]⟩, .int .u16 0, .slice p10 ln c10, .int .i64 0, .int .i64 0] 45)) := (Below.refl _ _).alloc (Nat.le_refl _) _
      obtain ⟨W7, hW7⟩ : ∃ W7, W6.alloc (.cells #[.int .i64 1, .string ⟨#[109, 97, 105, 110]⟩, .int .u16 0, .slice p10 ln c10, .int .i64 0, .int .i64 0] 45) = W7 := ⟨_, rfl⟩
      rw [hW7] at hD7 hb7
      have hc8 := R.check_any [dfn (kk KF k)] [] (dfn_nm _) (by decide) _ _ (On W2 W7) W7 (fun j hj => hj.2) hD7 (bv_nil _ _)
      rw [HCK.out, if_neg (by omega)] at hc8
      have HW6 := hid hW6
      have HW7 := hid hW7
      have hb67 := hb56.trans (hb7.mono hb56.size)
      obtain ⟨y0, y1⟩ := box2 v1 hb7
      have H67 := hid (And.intro hb67 (And.intro hb7 v1))
      clear hc1 hN6 hB6 hD7 hb7 hb67 hb56 hb6 hb5 v0 v1 hW6 hW7 y0 y1
      go_upto_region 35 with fail
      rw [HW6.out]
      go_wp2_with fail
      rw [HW7.out]
      refine hc8.mono ?_
      rintro e w8 ⟨rfl, hb8⟩
      obtain ⟨hb67, hb7, v1⟩ := H67.out
      have hb68 := hb7.trans (hb8.mono hb7.size)
      have hbr8 := hb67.trans (hb8.mono hb67.size)
      have hB8 := HB.out.trans (hbr8.mono HB.out.size)
      obtain ⟨y0, y1⟩ := box2 v1 hb68
      have HBF := hid (HB2.out.trans (hB8.mono HB2.out.size))
      have hee := fun w => eql_ps w 1 (8 + (lc : Int)) 1 (8 + (lc : Int))
      have hff : ((1 : Int) == 1 && (8 + (lc : Int)) == 8 + (lc : Int)) = true := by simp
      rw [hff] at hee
      clear hff hc8 H67 hb67 hb7 v1 hb68 hbr8 hB8 hb8 hnb hN1
      go_wp2
      go_ret
      exact ⟨rfl, HBF.out⟩
end M
namespace M
open Go.RowKit Go.ChangeShapes Go.WideShapes Go.ChangeAt
set_option maxRecDepth 100000
theorem laidOut : laidOutB Tryz.prog = true := by kernel_rfl
end M
namespace M
open Go.RowKit Go.ChangeShapes Go.WideShapes Go.ChangeAt
set_option maxRecDepth 100000
section
variable {H : Type} {enc : TypeId × Value -> H}
theorem open_ints1 {W : World} {base : Nat} {v : Value} {d : DataW H} {p : List MemPlace} (hval : Value.okWide Tryz.prog W .any base 38 v) (h : DataW.Trod enc Tryz.prog W 0 (fun _ => true) true 38 v d p) :
  ∃ (q : Option Addr) (n c : Nat), v = .slice q n c /\ IG W q n := by
 obtain ⟨a, len, cap, rfl⟩ := okWide_slice Tryz.underlying38 hval
 obtain ⟨fuel, hf⟩ := h
 rcases open_ints Tryz.underlying38 Tryz.underlying3 (by kernel_rfl) hf with ⟨hcs, hx⟩ | ⟨x, l, c, zs, hcs, _, hl, hm, hz, hx, hcell, hwz⟩
 ·simp [Value.cells] at hcs
  obtain ⟨rfl, rfl, rfl⟩ := hcs
  exact ⟨none, 0, 0, rfl, fun i hi => absurd hi (by omega)⟩
 ·simp [Value.cells] at hcs
  obtain ⟨rfl, rfl, rfl⟩ := hcs
  simp only [if_true] at hz
  refine ⟨_, _, _, rfl, fun i hi => ?_⟩
  have hc := hcell i (by omega)
  have hsp := World.cell?_spot (hcell 0 (by omega))
  obtain ⟨b, o, sp⟩ := x
  have hs0 : sp = none := by simpa [Addr.add] using hsp
  subst hs0
  rw [Addr.add_lit] at hc
  have hmem : zs.getD i 0 ∈ zs := by
   rw [List.getD_eq_getElem?_getD, List.getElem?_eq_getElem (show i < zs.length by omega)]
   exact List.getElem_mem _
  have hwf := hwz _ hmem
  simp only [Lit.wf, Bool.and_eq_true, decide_eq_true_eq] at hwf
  exact ⟨b, o, _, rfl, hc, hwf⟩
end
end M
end Go.Proofs.YtdnklgceghllaaaGreatDoor
