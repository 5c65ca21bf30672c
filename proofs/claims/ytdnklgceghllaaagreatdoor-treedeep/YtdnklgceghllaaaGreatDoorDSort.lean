import Derived.Test.YtdnklgceghllaaaGreatDoorSKit
import Derived.Ground.SlsfProg
import Derived.Shelf.SlSortCmp.WholeK
import Derived.Shelf.SlSortCmp.NoneTotal
import Derived.Test.YtdnklgceghllaaaGreatDoorProg
namespace Go.Proofs
open Go.Shelf
def Tryz.laysBk_ren : Go.Shelf.Ren := ⟨fun | 6 => 45 | 15 => 82 | 14 => 81 | 28 => 116 | 29 => 117 | 20 => 108 | 21 => 109 | 22 => 110 | 23 => 111 | 24 => 112 | 25 => 113 | 26 => 114 | 27 => 115 | 46 => 146 | 47 => 147 | 48 => 148 | 49 => 149 | 50 => 150 | 57 => 226 | n => n, fun | 22 => 24 | 24 => 63 | 25 => 100 | 3 => 3 | 39 => 135 | 0 => 0 | 53 => 174 | 55 => 176 | 4 => 4 | 46 => 168 | 45 => 167 | 50 => 138 | 5 => 5 | 9 => 9 | 66 => 191 | 70 => 195 | 76 => 236 | 77 => 237 | n => n, fun | n => n⟩
theorem Tryz.laysBk : Go.Proofs.SlLaysF0.n6 Tryz.prog Tryz.laysBk_ren := {
 mixed := by kernel_rfl
 f6 := ⟨Tryz.f45.name, by decide, Tryz.func45.trans (congrArg some (by kernel_rfl))⟩
 f14 := ⟨Tryz.f81.name, by decide, Tryz.func81.trans (congrArg some (by kernel_rfl))⟩
 f15 := Tryz.func82.trans (congrArg some (by kernel_rfl))
 f20 := ⟨Tryz.f108.name, by decide, Tryz.func108.trans (congrArg some (by kernel_rfl))⟩
 f21 := ⟨Tryz.f109.name, by decide, Tryz.func109.trans (congrArg some (by kernel_rfl))⟩
 f22 := ⟨Tryz.f110.name, by decide, Tryz.func110.trans (congrArg some (by kernel_rfl))⟩
 f23 := ⟨Tryz.f111.name, by decide, Tryz.func111.trans (congrArg some (by kernel_rfl))⟩
 f24 := ⟨Tryz.f112.name, by decide, Tryz.func112.trans (congrArg some (by kernel_rfl))⟩
 f25 := ⟨Tryz.f113.name, by decide, Tryz.func113.trans (congrArg some (by kernel_rfl))⟩
 f26 := ⟨Tryz.f114.name, by decide, Tryz.func114.trans (congrArg some (by kernel_rfl))⟩
 f27 := ⟨Tryz.f115.name, by decide, Tryz.func115.trans (congrArg some (by kernel_rfl))⟩
 f28 := Tryz.func116.trans (congrArg some (by kernel_rfl))
 f29 := Tryz.func117.trans (congrArg some (by kernel_rfl))
 f46 := ⟨Tryz.f146.name, by decide, Tryz.func146.trans (congrArg some (by kernel_rfl))⟩
 f47 := Tryz.func147.trans (congrArg some (by kernel_rfl))
 f48 := Tryz.func148.trans (congrArg some (by kernel_rfl))
 f49 := ⟨Tryz.f149.name, by decide, Tryz.func149.trans (congrArg some (by kernel_rfl))⟩
 f50 := ⟨Tryz.f150.name, by decide, Tryz.func150.trans (congrArg some (by kernel_rfl))⟩
 f57 := ⟨Tryz.f226.name, by decide, Tryz.func226.trans (congrArg some (by kernel_rfl))⟩
 t0 := Tryz.underlying0
 a0 := Tryz.isAgg0
 z0 := Tryz.sizeOf0
 v0 := Tryz.zeroValue0
 t3 := Tryz.underlying3
 a3 := Tryz.isAgg3
 z3 := Tryz.sizeOf3
 v3 := Tryz.zeroValue3
 t4 := Tryz.underlying4
 a4 := Tryz.isAgg4
 z4 := Tryz.sizeOf4
 v4 := Tryz.zeroValue4
 t5 := Tryz.underlying5
 a5 := Tryz.isAgg5
 z5 := Tryz.sizeOf5
 v5 := Tryz.zeroValue5
 t9 := Tryz.underlying9
 a9 := Tryz.isAgg9
 z9 := Tryz.sizeOf9
 v9 := Tryz.zeroValue9
 t22 := Tryz.underlying24
 a22 := Tryz.isAgg24
 z22 := Tryz.sizeOf24
 v22 := Tryz.zeroValue24
 t25 := Tryz.underlying100
 a25 := Tryz.isAgg100
 z25 := Tryz.sizeOf100
 v25 := Tryz.zeroValue100
 t39 := Tryz.underlying135
 a39 := Tryz.isAgg135
 z39 := Tryz.sizeOf135
 v39 := Tryz.zeroValue135
 t45 := Tryz.underlying167
 a45 := Tryz.isAgg167
 z45 := Tryz.sizeOf167
 v45 := Tryz.zeroValue167
 t46 := Tryz.underlying168
 a46 := Tryz.isAgg168
 z46 := Tryz.sizeOf168
 v46 := Tryz.zeroValue168
 t50 := Tryz.underlying138
 a50 := Tryz.isAgg138
 z50 := Tryz.sizeOf138
 v50 := Tryz.zeroValue138
 t53 := Tryz.underlying174
 a53 := Tryz.isAgg174
 z53 := Tryz.sizeOf174
 v53 := Tryz.zeroValue174
 t55 := Tryz.underlying176
 a55 := Tryz.isAgg176
 z55 := Tryz.sizeOf176
 v55 := Tryz.zeroValue176
 t66 := Tryz.underlying191
 a66 := Tryz.isAgg191
 z66 := Tryz.sizeOf191
 v66 := Tryz.zeroValue191
 t70 := Tryz.underlying195
 a70 := Tryz.isAgg195
 z70 := Tryz.sizeOf195
 v70 := Tryz.zeroValue195
 t76 := Tryz.underlying236
 a76 := Tryz.isAgg236
 z76 := Tryz.sizeOf236
 v76 := Tryz.zeroValue236
 t77 := Tryz.underlying237
 a77 := Tryz.isAgg237
 z77 := Tryz.sizeOf237
 v77 := Tryz.zeroValue237 }
end Go.Proofs
namespace Go.Proofs.YtdnklgceghllaaaGreatDoor.D
open Go.RowKit Go.Shelf Go.Lib Go.Sort
open Go.Proofs
set_option linter.unusedVariables false
set_option linter.unusedSimpArgs false
set_option maxHeartbeats 2000000
set_option maxRecDepth 100000
theorem nan_any (x : Int) (W : World) : Calls Tryz.prog 83 #[.int .i64 x] W fun e w' => e = .returned (.bool false) /\ w' = W := by
 have hx : (x != x) = false := by simp
 go_enter Tryz.func83, Tryz.ntmps83
 go_wp2
 go_ret
 exact ⟨rfl, rfl⟩
theorem compare_any (x y : Int) (W : World) : Calls Tryz.prog 47 #[.int .i64 x, .int .i64 y] W fun e w' => e = .returned (.int .i64 (Lib.compareInt x y)) /\ w' = W := by
 have h1 := nan_any x W
 have h2 := nan_any y W
 unfold Lib.compareInt
 by_cases ha : x < y
 ·rw [if_pos ha]
  go_enter Tryz.func47, Tryz.ntmps47
  go_wp2_with fail
  refine h1.mono ?_
  rintro e w1 ⟨rfl, hw⟩
  obtain rfl := hw.symm
  go_wp2_with fail
  refine h2.mono ?_
  rintro e w1 ⟨rfl, hw⟩
  obtain rfl := hw.symm
  go_wp2
  go_ret
  exact ⟨rfl, rfl⟩
 ·rw [if_neg ha]
  by_cases hb : y < x
  ·rw [if_pos hb]
   go_enter Tryz.func47, Tryz.ntmps47
   go_wp2_with fail
   refine h1.mono ?_
   rintro e w1 ⟨rfl, hw⟩
   obtain rfl := hw.symm
   go_wp2_with fail
   refine h2.mono ?_
   rintro e w1 ⟨rfl, hw⟩
   obtain rfl := hw.symm
   go_wp2
   go_ret
   exact ⟨rfl, rfl⟩
  ·rw [if_neg hb]
   go_enter Tryz.func47, Tryz.ntmps47
   go_wp2_with fail
   refine h1.mono ?_
   rintro e w1 ⟨rfl, hw⟩
   obtain rfl := hw.symm
   go_wp2_with fail
   refine h2.mono ?_
   rintro e w1 ⟨rfl, hw⟩
   obtain rfl := hw.symm
   go_wp2
   go_ret
   exact ⟨rfl, rfl⟩
theorem cmpB (x y : Int) (p p' : Option Addr) (n c n' c' : Nat) (W : World) : Calls Tryz.prog 46 #[.agg #[.int .i64 x, .slice p n c], .agg #[.int .i64 y, .slice p' n' c']] W fun e w' => e = .returned (.int .i64 (Lib.compareInt x y)) /\ ∃ q os', w' = grow (W.drewN q) os' := by
 have hcon := fun W' => compare_any x y W'
 generalize Lib.compareInt x y = r at hcon ⊢
 go_enter Tryz.func46, Tryz.ntmps46
 go_wp2_with (go_at_call 47; refine (hcon _).mono ?_; rintro e w' ⟨rfl, rfl⟩)
 go_ret
 exact ⟨rfl, 0, _, by rw [alloc_eq_grow, alloc_eq_grow, grow_grow]; rfl⟩
theorem modify_cells (h os : Array Obj) (blk : Nat) (f : Array Value -> Array Value) (c0 : Array Value) (t : TypeId) (fr : Nat × Nat) (hc : h[blk]? = some (.cells c0 t fr)) : ((h.modify blk (onCells f)) ++ os)[blk]? = some (.cells (f c0) t fr) := by
 have hl := (Array.getElem?_eq_some_iff.1 hc).1
 rw [Array.getElem?_append_left (by rw [Array.size_modify]; exact hl), Array.getElem?_modify, if_pos rfl, hc]
 rfl
section
variable {m : Nat} (num : Fin (m + 1) -> Int) (vp : Fin (m + 1) -> Option Addr) (vn vc : Fin (m + 1) -> Nat)
def encB (i : Fin (m + 1)) : List Value := [.int .i64 (num i), .slice (vp i) (vn i) (vc i)]
def cfB (i j : Fin (m + 1)) : Int := Lib.compareInt (num i) (num j)
theorem ltB (x y : Fin (m + 1)) : ltOf (cfB num) x y = decide (num x < num y) := by
 unfold ltOf cfB Lib.compareInt
 by_cases h1 : num x < num y
 ·simp [h1]
 ·by_cases h2 : num y < num x <;> simp [h1, h2]
theorem swoB : SWO (ltOf (cfB num)) where
 irrefl x := by rw [ltB]; simp
 trans x y z h1 h2 := by rw [ltB] at *; simp at *; omega
 ntrans x y z h1 h2 := by rw [ltB] at *; simp at *; omega
def ordB : List (Fin (m + 1)) := (List.finRange (m + 1)).mergeSort fun x y => !(ltOf (cfB num)) y x
theorem ordB_len : (ordB num).length = m + 1 := by unfold ordB; rw [List.length_mergeSort, List.length_finRange]
theorem flat_at (d : Array (Fin (m + 1))) (i j : Nat) (x : Fin (m + 1)) (hx : d[i]? = some x) (hj : j < 2) : (flatK (encB num vp vn vc) 2 d)[i * 2 + j]! = (encB num vp vn vc x)[j]! := by
 have hi : i < d.size := (Array.getElem?_eq_some_iff.1 hx).1
 rw [get_flatK _ 2 d _ (by omega), show (i * 2 + j) / 2 = i by omega, show (i * 2 + j) % 2 = j by omega]
 have : d[i]! = x := by
  rw [getElem!_pos d i hi]
  exact (Array.getElem?_eq_some_iff.1 hx).2
 rw [this]
theorem sortB (hinj : ∀ i j, num i = num j -> i = j) (blk cap : Nat) (w : World) (hH : ∀ i : Fin (m + 1), w.cell? ⟨blk, i.val * 2, none⟩ = some (.int .i64 (num i)) /\ w.cell? ⟨blk, i.val * 2 + 1, none⟩ = some (.slice (vp i) (vn i) (vc i))) (hfr : ∀ j, w.frozen? ⟨blk, j, none⟩ = false) (hblk : blk < w.heap.size) (hm : m < 1000000) :
  Calls Tryz.prog 45 #[.slice (some ⟨blk, 0, none⟩) (m + 1) cap, .func (.func 46) #[] #[]] w fun e w' => e = .returned (.tuple #[]) /\ w'.os = w.os /\ w'.tape = w.tape /\ w'.output = w.output /\ w.heap.size <= w'.heap.size /\ (∀ b, b < w.heap.size -> b ≠ blk -> w'.heap[b]? = w.heap[b]?) /\ (∀ c0 t fr, w.heap[blk]? = some (.cells c0 t fr) -> ∃ c, w'.heap[blk]? = some (.cells c t fr)) /\
   ∀ (i : Nat) (x : Fin (m + 1)), (ordB num)[i]? = some x -> w'.cell? ⟨blk, i * 2, none⟩ = some (.int .i64 (num x)) /\ w'.cell? ⟨blk, i * 2 + 1, none⟩ = some (.slice (vp x) (vn x) (vc x)) := by
 have eg : ∀ args w, (callFunc 46 args).run Tryz.prog w = .ok (.enter 46 args) w := enters_of Tryz.func46 (by kernel_rfl) rfl
 have hget : ∀ (i : Nat) (h : i < m + 1), ((List.finRange (m + 1)).toArray)[i]? = some ⟨i, h⟩ := fun i h => by
  rw [List.getElem?_toArray, List.getElem?_eq_getElem (by rw [List.length_finRange]; exact h), List.getElem_finRange]
  rfl
 have hsz : ((List.finRange (m + 1)).toArray).size = m + 1 := by simp
 have hHK : HoldsK (encB num vp vn vc) 2 w blk 0 (List.finRange (m + 1)).toArray := fun t ht => by
  rw [size_flatK, hsz] at ht
  have hq : t / 2 < m + 1 := by omega
  have e1 : t / 2 * 2 + t % 2 = t := by omega
  have e2 := flat_at num vp vn vc _ (t / 2) (t % 2) _ (hget (t / 2) hq) (by omega)
  rw [e1] at e2
  rw [Nat.zero_add]
  refine ⟨?_, hfr t⟩
  rw [e2]
  obtain ⟨h1, h2⟩ := hH ⟨t / 2, hq⟩
  rcases Nat.mod_two_eq_zero_or_one t with h0 | h0
  ·rw [h0]
   have e3 : (⟨t / 2, hq⟩ : Fin (m + 1)).val * 2 = t := by show t / 2 * 2 = t; omega
   rw [e3] at h1
   exact h1
  ·rw [h0]
   have e3 : (⟨t / 2, hq⟩ : Fin (m + 1)).val * 2 + 1 = t := by show t / 2 * 2 + 1 = t; omega
   rw [e3] at h2
   exact h2
 have hcon := AnyQ.slices_SortFunc_total Tryz.laysBk 2 Tryz.isAgg63 Tryz.sizeOf63 (encB num vp vn vc) (fun _ => rfl) (fun x v hv => by simp [encB] at hv; rcases hv with rfl | rfl <;> rfl) (cfB num) (swoB num) 46 #[] blk 0 cap (List.finRange (m + 1)).toArray w eg (fun _ _ _ _ x y => cmpB (num x) (num y) (vp x) (vp y) (vn x) (vc x) (vn y) (vc y) _) hHK hblk (by rw [hsz]; omega) (fun x y h1 h2 => by
  rw [ltB] at h1 h2
  simp at h1 h2
  exact hinj x y (by omega))
 change Calls Tryz.prog 45 _ _ _ at hcon
 rw [hsz] at hcon
 refine hcon.mono ?_
 rintro e w' ⟨rfl, n, os, rfl⟩
 have hsz2 : ((ordB num).toArray).size = m + 1 := by rw [List.size_toArray, ordB_len]
 have hHO := holdsK_sortWorldK_c (encB num vp vn vc) 2 w blk 0 (List.finRange (m + 1)).toArray (ordB num).toArray n os hHK hblk (by rw [hsz2, hsz])
 refine ⟨rfl, rfl, rfl, rfl, size_sortWorldK_c (encB num vp vn vc) 2 w blk 0 n (ordB num).toArray os, fun b hb hne => ?_, fun c0 t fr hc0 => ?_, fun i x hx => ?_⟩
 ·show ((w.heap.modify blk _) ++ os)[b]? = w.heap[b]?
  rw [Array.getElem?_append_left (by rw [Array.size_modify]; exact hb), Array.getElem?_modify, if_neg (Ne.symm hne)]
 ·exact ⟨_, modify_cells w.heap os blk _ c0 t fr hc0⟩
 ·have hi : i < m + 1 := by rw [<- ordB_len num]; exact (List.getElem?_eq_some_iff.1 hx).1
  have hxa : ((ordB num).toArray)[i]? = some x := by rw [List.getElem?_toArray]; exact hx
  have c0 := (hHO (i * 2 + 0) (by rw [size_flatK, hsz2]; omega)).1
  have c1 := (hHO (i * 2 + 1) (by rw [size_flatK, hsz2]; omega)).1
  rw [flat_at num vp vn vc _ i 0 x hxa (by omega), show 0 + (i * 2 + 0) = i * 2 by omega] at c0
  rw [flat_at num vp vn vc _ i 1 x hxa (by omega), show 0 + (i * 2 + 1) = i * 2 + 1 by omega] at c1
  exact ⟨c0, c1⟩
end
end Go.Proofs.YtdnklgceghllaaaGreatDoor.D
