import Derived.Test.YtdnklgceghllaaaGreatDoorTRowKit
import Derived.Ground.SlsfProg
import Derived.Shelf.SlSortCmp.NoneTotal
import Derived.Test.YtdnklgceghllaaaGreatDoorProg
import Derived.Deep.QuietTactic
import Derived.BigQuiet
namespace Go.Proofs
open Go.Shelf
def Tryz.laysSlF6_f95_ren : Go.Shelf.Ren := ⟨fun | 6 => 95 | 15 => 82 | 14 => 130 | 28 => 116 | 29 => 117 | 20 => 164 | 21 => 165 | 22 => 166 | 23 => 167 | 24 => 168 | 25 => 169 | 26 => 170 | 27 => 171 | 46 => 233 | 47 => 147 | 48 => 148 | 49 => 234 | 50 => 235 | 57 => 260 | n => n, fun | 22 => 38 | 24 => 3 | 25 => 99 | 3 => 3 | 39 => 135 | 0 => 0 | 53 => 174 | 55 => 176 | 4 => 4 | 46 => 168 | 45 => 167 | 50 => 138 | 5 => 5 | 9 => 9 | 66 => 191 | 70 => 195 | 76 => 236 | 77 => 237 | n => n, fun | n => n⟩
theorem Tryz.laysSlF6_f95 : Go.Proofs.SlLaysF.n6 Tryz.prog Tryz.laysSlF6_f95_ren := {
 mixed := by kernel_rfl
 f6 := ⟨Tryz.f95.name, by decide, Tryz.func95.trans (congrArg some (by kernel_rfl))⟩
 f14 := ⟨Tryz.f130.name, by decide, Tryz.func130.trans (congrArg some (by kernel_rfl))⟩
 f15 := Tryz.func82.trans (congrArg some (by kernel_rfl))
 f20 := ⟨Tryz.f164.name, by decide, Tryz.func164.trans (congrArg some (by kernel_rfl))⟩
 f21 := ⟨Tryz.f165.name, by decide, Tryz.func165.trans (congrArg some (by kernel_rfl))⟩
 f22 := ⟨Tryz.f166.name, by decide, Tryz.func166.trans (congrArg some (by kernel_rfl))⟩
 f23 := ⟨Tryz.f167.name, by decide, Tryz.func167.trans (congrArg some (by kernel_rfl))⟩
 f24 := ⟨Tryz.f168.name, by decide, Tryz.func168.trans (congrArg some (by kernel_rfl))⟩
 f25 := ⟨Tryz.f169.name, by decide, Tryz.func169.trans (congrArg some (by kernel_rfl))⟩
 f26 := ⟨Tryz.f170.name, by decide, Tryz.func170.trans (congrArg some (by kernel_rfl))⟩
 f27 := ⟨Tryz.f171.name, by decide, Tryz.func171.trans (congrArg some (by kernel_rfl))⟩
 f28 := Tryz.func116.trans (congrArg some (by kernel_rfl))
 f29 := Tryz.func117.trans (congrArg some (by kernel_rfl))
 f46 := ⟨Tryz.f233.name, by decide, Tryz.func233.trans (congrArg some (by kernel_rfl))⟩
 f47 := Tryz.func147.trans (congrArg some (by kernel_rfl))
 f48 := Tryz.func148.trans (congrArg some (by kernel_rfl))
 f49 := ⟨Tryz.f234.name, by decide, Tryz.func234.trans (congrArg some (by kernel_rfl))⟩
 f50 := ⟨Tryz.f235.name, by decide, Tryz.func235.trans (congrArg some (by kernel_rfl))⟩
 f57 := ⟨Tryz.f260.name, by decide, Tryz.func260.trans (congrArg some (by kernel_rfl))⟩
 t0 := Tryz.underlying0
 a0 := Tryz.isAgg0
 z0 := Tryz.sizeOf0
 v0 := Tryz.zeroValue0
 t3 := Tryz.underlying3
 a3 := Tryz.isAgg3
 z3 := Tryz.sizeOf3
 v3 := Tryz.zeroValue3
 t4 := Tryz.underlying4
 a4 := Tryz.isAgg4
 z4 := Tryz.sizeOf4
 v4 := Tryz.zeroValue4
 t5 := Tryz.underlying5
 a5 := Tryz.isAgg5
 z5 := Tryz.sizeOf5
 v5 := Tryz.zeroValue5
 t9 := Tryz.underlying9
 a9 := Tryz.isAgg9
 z9 := Tryz.sizeOf9
 v9 := Tryz.zeroValue9
 t22 := Tryz.underlying38
 a22 := Tryz.isAgg38
 z22 := Tryz.sizeOf38
 v22 := Tryz.zeroValue38
 a24 := Tryz.isAgg3
 z24 := Tryz.sizeOf3
 t25 := Tryz.underlying99
 a25 := Tryz.isAgg99
 z25 := Tryz.sizeOf99
 v25 := Tryz.zeroValue99
 t39 := Tryz.underlying135
 a39 := Tryz.isAgg135
 z39 := Tryz.sizeOf135
 v39 := Tryz.zeroValue135
 t45 := Tryz.underlying167
 a45 := Tryz.isAgg167
 z45 := Tryz.sizeOf167
 v45 := Tryz.zeroValue167
 t46 := Tryz.underlying168
 a46 := Tryz.isAgg168
 z46 := Tryz.sizeOf168
 v46 := Tryz.zeroValue168
 t50 := Tryz.underlying138
 a50 := Tryz.isAgg138
 z50 := Tryz.sizeOf138
 v50 := Tryz.zeroValue138
 t53 := Tryz.underlying174
 a53 := Tryz.isAgg174
 z53 := Tryz.sizeOf174
 v53 := Tryz.zeroValue174
 t55 := Tryz.underlying176
 a55 := Tryz.isAgg176
 z55 := Tryz.sizeOf176
 v55 := Tryz.zeroValue176
 t66 := Tryz.underlying191
 a66 := Tryz.isAgg191
 z66 := Tryz.sizeOf191
 v66 := Tryz.zeroValue191
 t70 := Tryz.underlying195
 a70 := Tryz.isAgg195
 z70 := Tryz.sizeOf195
 v70 := Tryz.zeroValue195
 t76 := Tryz.underlying236
 a76 := Tryz.isAgg236
 z76 := Tryz.sizeOf236
 v76 := Tryz.zeroValue236
 t77 := Tryz.underlying237
 a77 := Tryz.isAgg237
 z77 := Tryz.sizeOf237
 v77 := Tryz.zeroValue237 }
end Go.Proofs
namespace Go.Proofs.YtdnklgceghllaaaGreatDoor.T
open Go.RowKit Go.Shelf Go.Sort
set_option linter.unusedVariables false
def cmpI (x y : Int) : Int := if x < y then -1 else if y < x then 1 else 0
theorem compare_any (x y : Int) (w : World) : Calls Tryz.prog 47 #[.int .i64 x, .int .i64 y] w fun e w' => e = .returned (.int .i64 (cmpI x y)) /\ w' = w := by
 by_cases h1 : x < y
 ·have hc : cmpI x y = -1 := by unfold cmpI; rw [if_pos h1]
  rw [hc]
  clear hc
  go_enter Tryz.func47, Tryz.ntmps47
  go_wp2
  go_ret
  exact ⟨rfl, rfl⟩
 ·by_cases h2 : y < x
  ·have hc : cmpI x y = 1 := by unfold cmpI; rw [if_neg h1, if_pos h2]
   rw [hc]
   clear hc
   go_enter Tryz.func47, Tryz.ntmps47
   go_wp2
   go_ret
   exact ⟨rfl, rfl⟩
  ·have hc : cmpI x y = 0 := by unfold cmpI; rw [if_neg h1, if_neg h2]
   rw [hc]
   clear hc
   go_enter Tryz.func47, Tryz.ntmps47
   go_wp2
   go_ret
   exact ⟨rfl, rfl⟩
set_option maxRecDepth 100000 in
theorem closure_any (W : World) (bc bw n i j : Nat) (f : Nat -> Int) (hn : n <= 1000000) (hcap : W.cell? ⟨bc, 0, none⟩ = some (.slice (some ⟨bw, 0, none⟩) n n)) (hrow : IRow W bw 3 f n) (hi : i < n) (hj : j < n) :
  Calls Tryz.prog 96 #[.int .i64 (i : Int), .int .i64 (j : Int), .pointer (some ⟨bc, 0, none⟩)] W fun e w' => e = .returned (.int .i64 (cmpI (f i) (f j))) /\ ∃ q, w' = W.drewN q := by
 have c1 := hrow.cell i hi
 have c2 := hrow.cell j hj
 go_enter Tryz.func96, Tryz.ntmps96
 go_wp2
 go_quiet ((go_at_call 47; exact Calls.quiet_of_same (compare_any _ _ _)))
 go_wp2
 go_ret
 exact ⟨rfl, _, rfl⟩
theorem cmp_lt {n : Nat} (f : Nat -> Int) (x y : Fin n) : ltOf (fun a b : Fin n => cmpI (f a.val) (f b.val)) x y = decide (f x.val < f y.val) := by
 unfold ltOf cmpI
 by_cases h1 : f x.val < f y.val
 ·simp [h1]
 ·by_cases h2 : f y.val < f x.val <;> simp [h1, h2]
theorem cmp_swo {n : Nat} (f : Nat -> Int) : SWO (ltOf (fun a b : Fin n => cmpI (f a.val) (f b.val))) where
 irrefl x := by rw [cmp_lt]; simp
 trans x y z h1 h2 := by rw [cmp_lt] at *; simp at *; omega
 ntrans x y z h1 h2 := by rw [cmp_lt] at *; simp at *; omega
structure Order (f : Nat -> Int) (n : Nat) (ord : Nat -> Nat) : Prop where
 lt : ∀ k, k < n -> ord k < n
 onto : ∀ i, i < n -> ∃ k, k < n /\ ord k = i
 rise : ∀ j k, j < k -> k < n -> f (ord j) <= f (ord k)
def encF {n : Nat} (x : Fin n) : Value := .int .i64 (x.val : Int)
theorem sort_heap_other {n : Nat} [Inhabited (Fin n)] (w : World) (blk m : Nat) (d : Array (Fin n)) (os : Array Obj) (k : Nat) (hk : k < w.heap.size) (hne : k ≠ blk) :
  (sortWorld encF w blk 0 m d os).heap[k]? = w.heap[k]? := by
 unfold sortWorld
 rw [heap_grow_old _ _ (by simpa [Sort.ahead] using hk)]
 simp [putRow, mapBlock, Sort.ahead, Array.getElem?_modify, Ne.symm hne]
theorem sort_heap_row {n : Nat} [Inhabited (Fin n)] (w : World) (blk m : Nat) (d : Array (Fin n)) (hd : d.size = n) (os : Array Obj) (g : Nat -> Int) (hr : IRow w blk 3 g n) :
  IRow (sortWorld encF w blk 0 m d os) blk 3 (fun k => ((d[k]!).val : Int)) n := by
 unfold IRow at *
 have hk : blk < w.heap.size := (Array.getElem?_eq_some_iff.1 hr).1
 unfold sortWorld
 rw [heap_grow_old _ _ (by simpa [Sort.ahead] using hk)]
 simp only [putRow, mapBlock, Sort.ahead, Array.getElem?_modify, if_true, hr, Option.map_some, onCells]
 congr 2
 apply Array.ext_getElem?
 intro j
 by_cases hj : j < n
 ·rw [irow_get _ _ _ hj]
  simp [putCells, hd, hj, irow_get _ _ _ hj, encF]
 ·rw [Array.getElem?_eq_none (by simp [putCells, irow_size]; omega), Array.getElem?_eq_none (by simp [irow_size]; omega)]
theorem order_of {n : Nat} [Inhabited (Fin n)] (f : Nat -> Int) (d : Array (Fin n)) (hp : PermIn 0 n (Array.ofFn (fun i : Fin n => i)) d) (hs : SortedIn (ltOf (fun a b : Fin n => cmpI (f a.val) (f b.val))) 0 n d) :
  d.size = n /\ Order f n (fun k => (d[k]!).val) := by
 obtain ⟨hz, _, hperm⟩ := hp
 have hz' : d.size = n := by simpa using hz
 refine ⟨hz', fun k _ => (d[k]!).isLt, ?_, ?_⟩
 ·intro i hi
  have hmem : (⟨i, hi⟩ : Fin n) ∈ (Array.extract (Array.ofFn (fun i : Fin n => i)) 0 n).toList := by simp; rw [List.take_of_length_le (by simp)]; simp [List.mem_ofFn]
  have hmem' := hperm.symm.subset hmem
  have hx : d.extract 0 n = d := Array.extract_eq_self_of_le (by omega)
  rw [hx] at hmem'
  obtain ⟨k, hk, e⟩ := List.mem_iff_getElem.1 hmem'
  have hk' : k < d.size := by simpa using hk
  refine ⟨k, by omega, ?_⟩
  rw [getElem!_pos d k hk']
  have e' : d[k] = ⟨i, hi⟩ := by simpa using e
  rw [e']
 ·intro j k hjk hk
  have := hs j k (Nat.zero_le _) hjk hk
  rw [cmp_lt] at this
  simp at this
  exact this
set_option maxHeartbeats 1000000 in
set_option maxRecDepth 100000 in
theorem rising_any (bw n : Nat) (f : Nat -> Int) (hn : n <= 1000000) (w : World) (hrow : IRow w bw 3 f n) :
  Calls Tryz.prog 62 #[.slice (some ⟨bw, 0, none⟩) n n] w fun e w' => e = .returned (.slice (some ⟨w.heap.size + 1, 0, none⟩) n n) /\ Below w.heap.size w w' /\ ∃ ord, Order f n ord /\ IRow w' (w.heap.size + 1) 3 (fun k => (ord k : Int)) n := by
 have hm := fun W => make_ints n hn W
 have hbw := hrow.lt
 go_enter Tryz.func62, Tryz.ntmps62
 go_wp2
 go_loopw [10] (fun i wr => ∃ k : Nat, k <= n /\ i = .int .i64 k /\ Below w.heap.size w wr /\ wr.heap[w.heap.size]? = some (.cells #[.slice (some ⟨bw, 0, none⟩) n n] 38 (0, 0)) /\ IRow wr (w.heap.size + 1) 3 (fun j => if j < k then (j : Int) else 0) n) (fun i _ => n - (intOf i).toNat)
 case atStart =>
  refine ⟨0, Nat.zero_le _, rfl, ((Below.refl _ _).alloc (Nat.le_refl _) _).alloc (by simp) _, ?_, ?_⟩
  ·rw [Below.heap_alloc _ _ _ (by simp)]; exact heap_alloc_new w _
  ·have := IRow.made (w.alloc (.cells #[.slice (some ⟨bw, 0, none⟩) n n] 38)) 3 (fun _ => 0) n
   simp at this
   exact this.congr (fun j _ => by simp)
 case round =>
  obtain ⟨k, hk, rfl, hb, hcap, hr⟩ := hrel
  by_cases hlt : k < n
  ·have hfz := hr.frozen k
   have hold := hr.cell k hlt
   have hst := hr.store k (k : Int)
   have hb2 := hb.setCell (p := ⟨w.heap.size + 1, k, none⟩) (by simp) (.int .i64 (k : Int))
   have hcap2 := (Below.heap_setCell wr ⟨w.heap.size + 1, k, none⟩ (.int .i64 (k : Int)) w.heap.size (by simp)).trans hcap
   clear hm
   go_wp2
   go_roundw
   case rel =>
    refine ⟨k + 1, by omega, by go_num, hb2, hcap2, ?_⟩
    refine hst.congr fun j _ => ?_
    unfold upd
    by_cases e : j = k
    ·subst e; simp
    ·by_cases e2 : j < k
     ·have : j < k + 1 := by omega
      simp [e, e2, this]
     ·have : ¬ j < k + 1 := by omega
      simp [e, e2, this]
   case measure => simp [intOf]; omega
  ·have hr' : IRow wr (w.heap.size + 1) 3 (fun j => (j : Int)) n := hr.congr fun j hj => by rw [if_pos (by omega)]
   have hlt1 := hr'.lt
   have hrw : IRow wr bw 3 f n := hrow.kept (hb.block bw hbw)
   clear hm hr
   by_cases h0 : n = 0
   ·subst h0
    have hS := fun W => AnyF.slices_SortFunc_none (P := Tryz.prog) (ρ := Tryz.laysSlF6_f95_ren) { Tryz.laysSlF6_f95 with } (some ⟨w.heap.size + 1, 0, none⟩) 0 (.func (.func 96) #[] #[.pointer (some ⟨w.heap.size, 0, none⟩)]) W
    change ∀ W, Calls Tryz.prog 95 _ _ _ at hS
    go_wp2_with (go_at_call 95; refine (hS _).mono ?_; rintro e w' ⟨rfl, rfl⟩)
    go_ret
    exact ⟨rfl, hb, fun k => k, ⟨fun k h => by omega, fun k h => by omega, fun j k _ h => by omega⟩, hr'⟩
   ·have hn0 : 0 < n := by omega
    let _ : Inhabited (Fin n) := ⟨⟨0, hn0⟩⟩
    have eg : ∀ args w, (callFunc 96 args).run Tryz.prog w = .ok (.enter 96 args) w := enters_of Tryz.func96 (by kernel_rfl) rfl
    have hH : Holds encF wr (w.heap.size + 1) 0 (Array.ofFn (fun i : Fin n => i)) := by
     intro j hj
     have hj' : j < n := by simpa using hj
     have hc := hr'.cell j hj'
     have hf := hr'.frozen j
     rw [Nat.zero_add]
     refine ⟨hc.trans ?_, hf⟩
     rw [getElem!_pos (Array.ofFn (fun i : Fin n => i)) j hj]; simp [encF]
    have hcmp : CmpLays1 Tryz.prog 96 #[.pointer (some ⟨w.heap.size, 0, none⟩)] encF (fun a b : Fin n => cmpI (f a.val) (f b.val)) (w.heap.size + 1) 0 (Array.ofFn (fun i : Fin n => i)).size wr := by
     intro m os dk hs x y
     have hcap2 := (sort_heap_other wr (w.heap.size + 1) m dk os w.heap.size (by omega) (by omega)).trans hcap
     have hrw2 : IRow (sortWorld encF wr (w.heap.size + 1) 0 m dk os) bw 3 f n := hrw.kept (sort_heap_other wr (w.heap.size + 1) m dk os bw (by omega) (by omega))
     have hcell := cell_of_row _ w.heap.size 0 _ _ _ hcap2
     exact (closure_any _ w.heap.size bw n x.val y.val f hn hcell hrw2 x.isLt y.isLt).mono fun e w' ⟨he, q, hq⟩ => ⟨he, q, #[], by rw [hq, grow_empty]⟩
    have hcon := Any.slices_SortFunc Tryz.laysSlF6_f95 encF (fun _ => rfl) _ (cmp_swo f) 96 #[.pointer (some ⟨w.heap.size, 0, none⟩)] (w.heap.size + 1) 0 n (Array.ofFn (fun i : Fin n => i)) wr eg hcmp hH hlt1 (by simp; omega)
    rw [show (Array.ofFn (fun i : Fin n => i)).size = n by simp] at hcon
    change Calls Tryz.prog 95 _ _ _ at hcon
    clear hH hcmp
    go_wp2_with (go_at_call 95; refine hcon.mono ?_; rintro e w' ⟨rfl, d', m, os, hp, hs, rfl⟩)
    go_ret
    obtain ⟨hz, ho⟩ := order_of f d' hp hs
    refine ⟨rfl, hb.trans ⟨rfl, rfl, rfl, ?_, fun k hk => sort_heap_other wr (w.heap.size + 1) m d' os k (by omega) (by omega)⟩, _, ho, sort_heap_row wr (w.heap.size + 1) m d' hz os _ hr'⟩
    unfold sortWorld; simp [Sort.ahead]
end Go.Proofs.YtdnklgceghllaaaGreatDoor.T
