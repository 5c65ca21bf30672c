import Derived.Test.YtlilefhmohkfkaaGreatDoorRDefs
import Derived.Test.YtlilefhmohkfkaaGreatDoorYBank
namespace Go.Proofs.YtlilefhmohkfkaaGreatDoor.R
open Go.RowKit
open Go.Proofs
open Go.Proofs.YtlilefhmohkfkaaGreatDoor.Y (Nd Df Ps ndc dfc hid NV DV D1 cells6 BV)
open Go.ChangeMaps (setBlock)
set_option linter.unusedVariables false
set_option linter.unusedSimpArgs false
set_option maxHeartbeats 2000000
set_option maxRecDepth 100000
theorem dsE_step (ds : List Df) (k : Nat) (d : Df) (h : ds[k]? = some d) : dsE ((ds.take k).map (·.nm)) (ds.drop k) = if dfE ((ds.take k).map (·.nm)) d = 0 then dsE ((ds.take (k + 1)).map (·.nm)) (ds.drop (k + 1)) else dfE ((ds.take k).map (·.nm)) d := by
 obtain ⟨hk, e⟩ := List.getElem?_eq_some_iff.1 h
 rw [List.drop_eq_getElem_cons hk, e, dsE, List.take_add_one, h]
 simp
theorem take_any (ds : List Df) (k : Nat) (d : Df) (h : ds[k]? = some d) : numb ((ds.take (k + 1)).map (·.nm)) 0 = numb ((ds.take k).map (·.nm)) 0 ++ [(d.nm, (k : Int))] := by
 obtain ⟨hk, e⟩ := List.getElem?_eq_some_iff.1 h
 rw [List.take_add_one, h]
 simp only [Option.toList_some, List.map_append, List.map_cons, List.map_nil]
 rw [numb_append, List.length_map, List.length_take, Nat.zero_add, Nat.min_eq_left (by omega)]
theorem twice_no (names : List ByteArray) (d : Df) (h : dfE names d = 0) : lk (numb names 0) d.nm = none := by
 have h2 : (names.any fun s => decide (s = d.nm)) = false := by
  cases c : (names.any fun s => decide (s = d.nm)) with
  | false => rfl
  | true =>
   unfold dfE at h
   rw [c] at h
   split at h
   ·cases h
   ·split at h
    ·cases h
    ·cases h
 rw [<- lk_numb d.nm names 0] at h2
 cases e : lk (numb names 0) d.nm with
 | none => rfl
 | some v => rw [e] at h2; cases h2
theorem checkDefs_any (ds : List Df) (hnm : ∀ d ∈ ds, d.nm.size <= maxLen) (v : Value) (O : Nat -> Prop) (W : World) (hO : ∀ j, O j -> j < W.heap.size) (h : DV W O v ds) :
  Calls Tryz.prog 42 #[v] W fun e w' => e = .returned (.int .i64 (dsE [] ds)) /\ Below W.heap.size W w' := by
 obtain ⟨p, c, rfl, hl, hp⟩ := h
 obtain ⟨W0, hW0⟩ : ∃ W0, W.alloc (.map #[] 0) = W0 := ⟨_, rfl⟩
 obtain ⟨W1, hW1⟩ : ∃ W1, W0.alloc (.cells #[.map (some W.heap.size)] 105) = W1 := ⟨_, rfl⟩
 have hs0 : W0.heap.size = W.heap.size + 1 := by rw [<- hW0]; simp
 have hB : Below W.heap.size W W1 := by rw [<- hW1, <- hW0]; exact ((Below.refl _ _).alloc (Nat.le_refl _) _).alloc (by simp) _
 have v0 : MP W1 W.heap.size [] := by rw [<- hW1]; exact MP.kept (by rw [<- hW0]; exact MP.made W) (Below.heap_alloc _ _ _ (by omega))
 have v1 : W1.heap[W0.heap.size]? = some (.cells [.map (some W.heap.size)].toArray 105 (0, 0)) := by rw [<- hW1]; exact heap_alloc_new W0 _
 have HV := hid (And.intro v0 (And.intro v1 (And.intro hs0 hB)))
 clear v0 v1 hs0 hB
 have hmm := @run_makeMap Tryz.prog
 go_enter Tryz.func42, Tryz.ntmps42
 go_wp2
 clear hW0 hW1 hmm
 go_loopw [11] (fun ix wr => ∃ k : Nat, k <= ds.length /\ ix = .int .i64 (k : Int) /\ Below W.heap.size W wr /\ MP wr W.heap.size (numb ((ds.take k).map (·.nm)) 0) /\ wr.heap[W0.heap.size]? = some (.cells [.map (some W.heap.size)].toArray 105 (0, 0)) /\ dsE [] ds = dsE ((ds.take k).map (·.nm)) (ds.drop k)) (fun ix _ => ds.length - (intOf ix).toNat)
 case atStart => exact ⟨0, by omega, rfl, HV.out.2.2.2, HV.out.1, HV.out.2.1, rfl⟩
 case round =>
  obtain ⟨k, hk, rfl, hb, hM, hc, hE⟩ := hrel
  by_cases hlt : k < ds.length
  ·have i1 : (k : Int) < ds.length := by omega
   have ea := List.getElem?_eq_getElem hlt
   have hsz := hnm ds[k] (List.getElem_mem _)
   generalize ds[k] = d at *
   obtain ⟨b, o, rfl, hOb, bv, hcl, hN⟩ := hp k d ea
   obtain ⟨q, cq, rfl, _, _⟩ := hN.ex
   have k1 := hb.block b (hO b hOb)
   obtain ⟨g0, g1, g2, g3, g4, g5⟩ := cells6 fun j x hx => (World.cell?_of_block (w := W) (a := ⟨b, o + k * 6 + j, none⟩) k1).trans (hcl j x hx)
   obtain ⟨W2, hW2⟩ : ∃ W2, wr.alloc (.cells #[.int .i64 d.k, .string d.nm, .int .u16 d.v, .slice q d.body.length cq, .int .i64 d.p.1, .int .i64 d.p.2] 27) = W2 := ⟨_, rfl⟩
   have z2 : Below wr.heap.size wr W2 := by rw [<- hW2]; exact (Below.refl _ _).alloc (Nat.le_refl _) _
   have v2 : W2.heap[wr.heap.size]? = some (.cells (dfc d (.slice q d.body.length cq)).toArray 27 (0, 0)) := by rw [<- hW2]; exact heap_alloc_new wr _
   have hB2 : Below W.heap.size W W2 := hb.trans (z2.mono hb.size)
   obtain ⟨x0, x1, x2, x3, x4, x5⟩ := cells6 (b := wr.heap.size) (o := 0) fun j x hx => by rw [Nat.zero_add]; exact S.cell_of W2 _ j _ 27 x v2 hx
   simp only [Nat.zero_add] at x1 x2 x3 x4 x5
   have hM2 : MP W2 W.heap.size (numb ((ds.take k).map (·.nm)) 0) := hM.below z2 hM.lt
   have hc2 := (z2.block _ (S.lt_of hc)).trans hc
   have c0 := S.cell_of W2 _ 0 _ 105 _ hc2 rfl
   have hcall := def_any ((ds.take k).map (·.nm)) d hsz _ O W.heap.size W2 (fun j hj => Nat.lt_of_lt_of_le (hO j hj) hB2.size) (hN.below hB2 hO) hM2
   unfold dfc at hcall
   have HH := hid (And.intro hB2 (And.intro hM2 (And.intro hc2 (And.intro v2 (And.intro hE (And.intro ea hk))))))
   clear z2 v2 hb hB2 k1 hp hN hcl hnm hO ea hE hM hM2 hc hc2 hk
   generalize hy : dfE ((ds.take k).map (·.nm)) d = y at *
   have HY := hid hy
   clear hy
   go_wp2_with fail
   refine hcall.mono ?_
   rintro e w3 ⟨rfl, hb3⟩
   have HB3 := hid hb3
   clear hcall hb3 x0 x1 x2 x3 x4 x5 g0 g1 g2 g3 g4 g5 c0 hW2
   by_cases hz : y = 0
   ·subst hz
    have hM3 : MP w3 W.heap.size (numb ((ds.take k).map (·.nm)) 0) := HH.out.2.1.below HB3.out HH.out.2.1.lt
    have hput := run_put w3 W.heap.size d.nm (k : Int) _ hM3 (twice_no _ d HY.out)
    have hM4 := hM3.put d.nm (k : Int)
    rw [<- take_any ds k d HH.out.2.2.2.2.2.1] at hput hM4
    have u3 := (HB3.out.block _ (S.lt_of HH.out.2.2.1)).trans HH.out.2.2.1
    have u4 := (HB3.out.block _ (S.lt_of HH.out.2.2.2.1)).trans HH.out.2.2.2.1
    have c0 := S.cell_of w3 _ 0 _ 105 _ u3 rfl
    have x1 := S.cell_of w3 _ 1 _ 27 _ u4 rfl
    have hne : W0.heap.size ≠ W.heap.size := by have := HV.out.2.2.1; omega
    have hbW : Below W.heap.size W w3 := HH.out.1.trans (HB3.out.mono HH.out.1.size)
    have HB4 := hid (below_setBlock hbW W.heap.size (Nat.le_refl _) (.map (ents 0 (numb ((ds.take (k + 1)).map (·.nm)) 0)).toArray (numb ((ds.take (k + 1)).map (·.nm)) 0).length))
    have HC4 := hid ((setBlock_other w3 W.heap.size W0.heap.size (.map (ents 0 (numb ((ds.take (k + 1)).map (·.nm)) 0)).toArray (numb ((ds.take (k + 1)).map (·.nm)) 0).length) hne).trans u3)
    have HM4 := hid hM4
    generalize setBlock w3 W.heap.size (.map (ents 0 (numb ((ds.take (k + 1)).map (·.nm)) 0)).toArray (numb ((ds.take (k + 1)).map (·.nm)) 0).length) = w4 at *
    have HE4 : Y.Hd (dsE [] ds = dsE ((ds.take (k + 1)).map (·.nm)) (ds.drop (k + 1))) := ⟨by rw [HH.out.2.2.2.2.1, dsE_step ds k d HH.out.2.2.2.2.2.1, HY.out, if_pos rfl]⟩
    clear hM3 hM4 u3 u4 hne hbW
    go_wp2
    go_roundw
    case rel =>
     first
      | exact ⟨k + 1, by omega, by go_num, HB4.out, HM4.out, HC4.out, HE4.out⟩
      | ((repeat apply Exists.intro); refine ⟨⟨k + 1, by omega, ?_, HB4.out, HM4.out, HC4.out, HE4.out⟩, rfl⟩; go_num)
    case measure => simp [intOf]; omega
   ·have hne : (y != 0) = true := by simpa using hz
    have HZ := hid hz
    clear hz
    go_wp2
    go_ret
    exact ⟨by rw [HH.out.2.2.2.2.1, dsE_step ds k d HH.out.2.2.2.2.2.1, HY.out, if_neg HZ.out]; rfl, HH.out.1.trans (HB3.out.mono HH.out.1.size)⟩
  ·have i1 : ¬ (k : Int) < ds.length := by omega
   rw [List.drop_of_length_le (by omega), dsE] at hE
   have HEE := hid hE
   clear hE
   go_wp2
   go_ret
   exact ⟨by rw [HEE.out]; rfl, hb⟩
theorem bkE_cons (last : Int) (b : Bk) (r : List Bk) : bkE last (b :: r) = if b.1 < 0 \/ 16 <= b.1 \/ 16384 < b.2.length then 106 else if b.1 <= last then 102 else bkE b.1 r := rfl
theorem checkBanks_any (bs : List Bk) (v : Value) (hlb : bs.length <= 140737488355328) (O : Nat -> Prop) (W : World) (hO : ∀ j, O j -> j < W.heap.size) (h : BV W O v bs) :
  Calls Tryz.prog 43 #[v] W fun e w' => e = .returned (.int .i64 (bkE (-1) bs)) /\ Below W.heap.size W w' := by
 obtain ⟨p, c, rfl, hp⟩ := h
 go_enter Tryz.func43, Tryz.ntmps43
 go_wp2
 go_loopw [3, 8] (fun la ix wr => ∃ (k : Nat) (z : Int), k <= bs.length /\ ix = .int .i64 (k : Int) /\ la = .int .i64 z /\ Below W.heap.size W wr /\ bkE (-1) bs = bkE z (bs.drop k)) (fun _ ix _ => bs.length - (intOf ix).toNat)
 case atStart => exact ⟨0, -1, by omega, rfl, rfl, Below.refl _ _, rfl⟩
 case round =>
  obtain ⟨k, z, hk, rfl, rfl, hb, hE⟩ := hrel
  by_cases hlt : k < bs.length
  ·have i1 : (k : Int) < bs.length := by omega
   have ea := List.getElem?_eq_getElem hlt
   have hd : bs.drop k = bs[k] :: bs.drop (k + 1) := List.drop_eq_getElem_cons hlt
   generalize bs[k] = d at *
   obtain ⟨b, o, rfl, hOb, bv, ⟨hc0, hc1⟩, hN⟩ := hp k d ea
   obtain ⟨q, cq, rfl⟩ := hN.ex
   have k1 := hb.block b (hO b hOb)
   have g0 := (World.cell?_of_block (w := W) (a := ⟨b, o + k * 2, none⟩) k1).trans hc0
   have g1 := (World.cell?_of_block (w := W) (a := ⟨b, o + k * 2 + 1, none⟩) k1).trans hc1
   obtain ⟨n, l⟩ := d
   simp only at g0 g1
   obtain ⟨W2, hW2⟩ : ∃ W2, wr.alloc (.cells #[.int .i64 n, .slice q l.length cq] 68) = W2 := ⟨_, rfl⟩
   have z2 : Below wr.heap.size wr W2 := by rw [<- hW2]; exact (Below.refl _ _).alloc (Nat.le_refl _) _
   have v2 : W2.heap[wr.heap.size]? = some (.cells [.int .i64 n, .slice q l.length cq].toArray 68 (0, 0)) := by rw [<- hW2]; exact heap_alloc_new wr _
   have x0 := S.cell_of W2 _ 0 _ 68 _ v2 rfl
   have x1 := S.cell_of W2 _ 1 _ 68 _ v2 rfl
   have HB2 := hid (hb.trans (z2.mono hb.size))
   have HE : Y.Hd (bkE (-1) bs = if n < 0 \/ 16 <= n \/ 16384 < l.length then 106 else if n <= z then 102 else bkE n (bs.drop (k + 1))) := ⟨by rw [hE, hd, bkE_cons]⟩
   clear z2 v2 hb k1 hc0 hc1 hN hp hE hd ea hO
   by_cases t1 : n < 0
   ·have d1 : decide (n < 0) = true := decide_eq_true t1
    have HR : Y.Hd (bkE (-1) bs = 106) := ⟨by rw [HE.out, if_pos (Or.inl t1)]⟩
    go_wp2
    go_ret
    exact ⟨by rw [HR.out]; rfl, HB2.out⟩
   ·have d1 : decide (n < 0) = false := decide_eq_false t1
    by_cases t2 : 16 <= n
    ·have d2 : decide (16 <= n) = true := decide_eq_true t2
     have d2' : decide (n ≥ 16) = true := decide_eq_true t2
     have HR : Y.Hd (bkE (-1) bs = 106) := ⟨by rw [HE.out, if_pos (Or.inr (Or.inl t2))]⟩
     go_wp2
     go_ret
     exact ⟨by rw [HR.out]; rfl, HB2.out⟩
    ·have d2 : decide (16 <= n) = false := decide_eq_false t2
     have d2' : decide (n ≥ 16) = false := decide_eq_false t2
     by_cases t3 : 16384 < l.length
     ·have d3 : decide ((l.length : Int) > 16384) = true := decide_eq_true (by omega)
      have d3' : decide ((16384 : Int) < (l.length : Int)) = true := decide_eq_true (by omega)
      have HR : Y.Hd (bkE (-1) bs = 106) := ⟨by rw [HE.out, if_pos (Or.inr (Or.inr t3))]⟩
      go_wp2
      go_ret
      exact ⟨by rw [HR.out]; rfl, HB2.out⟩
     ·have d3 : decide ((l.length : Int) > 16384) = false := decide_eq_false (by omega)
      have d3' : decide ((16384 : Int) < (l.length : Int)) = false := decide_eq_false (by omega)
      by_cases t4 : n <= z
      ·have d4 : decide (n <= z) = true := decide_eq_true t4
       have HR : Y.Hd (bkE (-1) bs = 102) := ⟨by rw [HE.out, if_neg (by omega), if_pos t4]⟩
       go_wp2
       go_ret
       exact ⟨by rw [HR.out]; rfl, HB2.out⟩
      ·have d4 : decide (n <= z) = false := decide_eq_false t4
       have HR : Y.Hd (bkE (-1) bs = bkE n (bs.drop (k + 1))) := ⟨by rw [HE.out, if_neg (by omega), if_neg t4]⟩
       go_wp2
       go_roundw
       case rel =>
        first
         | exact ⟨k + 1, n, by omega, by go_num, rfl, HB2.out, HR.out⟩
         | ((repeat apply Exists.intro); refine ⟨⟨k + 1, n, by omega, ?_, rfl, HB2.out, HR.out⟩, rfl⟩; go_num)
       case measure => simp [intOf]; omega
  ·have i1 : ¬ (k : Int) < bs.length := by omega
   rw [List.drop_of_length_le (by omega), bkE] at hE
   have HEE := hid hE
   clear hE
   go_wp2
   go_ret
   exact ⟨by rw [HEE.out]; rfl, hb⟩
set_option maxHeartbeats 2000000
set_option maxRecDepth 100000
theorem any_take (ds : List Df) (k : Nat) (d : Df) (h : ds[k]? = some d) (h0 : (ds.take k).any isMain = false) : (ds.take (k + 1)).any isMain = isMain d := by
 rw [List.take_add_one, h, List.any_append, h0]
 simp
theorem any_of (ds : List Df) (k : Nat) (h : (ds.take k).any isMain = true) : ds.any isMain = true := by
 rw [<- List.take_append_drop k ds, List.any_append, h, Bool.true_or]
theorem indexMain (ds : List Df) (v : Value) (O : Nat -> Prop) (W : World) (hO : ∀ j, O j -> j < W.heap.size) (h : DV W O v ds) :
  Calls Tryz.prog 55 #[v, .func (.func 45) #[] #[]] W fun e w' => ∃ z : Int, e = .returned (.int .i64 z) /\ decide (0 <= z) = ds.any isMain /\ Below W.heap.size W w' := by
 obtain ⟨p, c, rfl, hl, hp⟩ := h
 go_enter Tryz.func55, Tryz.ntmps55
 go_wp2
 go_loopw [8] (fun ix wr => ∃ k : Nat, k <= ds.length /\ ix = .int .i64 (k : Int) /\ Below W.heap.size W wr /\ (ds.take k).any isMain = false) (fun ix _ => ds.length - (intOf ix).toNat)
 case atStart => exact ⟨0, by omega, rfl, Below.refl _ _, rfl⟩
 case round =>
  obtain ⟨k, hk, rfl, hb, hE⟩ := hrel
  by_cases hlt : k < ds.length
  ·have i1 : (k : Int) < ds.length := by omega
   have ea := List.getElem?_eq_getElem hlt
   generalize ds[k] = d at *
   obtain ⟨b, o, rfl, hOb, bv, hcl, hN⟩ := hp k d ea
   obtain ⟨q, cq, rfl, _, _⟩ := hN.ex
   have k1 := hb.block b (hO b hOb)
   obtain ⟨g0, g1, g2, g3, g4, g5⟩ := cells6 fun j x hx => (World.cell?_of_block (w := W) (a := ⟨b, o + k * 6 + j, none⟩) k1).trans (hcl j x hx)
   have hcall := isMain_any d q d.body.length cq wr
   unfold dfc at hcall
   have HT := hid (any_take ds k d ea hE)
   have HB := hid hb
   have HE := hid hE
   clear k1 hp hN hcl hO ea hE hb
   generalize hy : isMain d = y at *
   clear hy
   go_wp2_with fail
   refine hcall.mono ?_
   rintro e w3 ⟨rfl, hb3⟩
   have HB3 := hid (HB.out.trans (hb3.mono HB.out.size))
   clear hcall hb3 g0 g1 g2 g3 g4 g5
   cases y
   ·go_wp2
    go_roundw
    case rel =>
     first
      | exact ⟨k + 1, by omega, by go_num, HB3.out, HT.out⟩
      | ((repeat apply Exists.intro); refine ⟨⟨k + 1, by omega, ?_, HB3.out, HT.out⟩, rfl⟩; go_num)
    case measure => simp [intOf]; omega
   ·go_wp2
    go_ret
    exact ⟨(k : Int), rfl, by rw [any_of ds _ HT.out]; simp, HB3.out⟩
  ·have i1 : ¬ (k : Int) < ds.length := by omega
   rw [List.take_of_length_le (by omega)] at hE
   have HE := hid hE
   clear hE
   go_wp2
   go_ret
   exact ⟨-1, rfl, by rw [HE.out]; rfl, hb⟩
theorem containsMain (ds : List Df) (v : Value) (O : Nat -> Prop) (W : World) (hO : ∀ j, O j -> j < W.heap.size) (h : DV W O v ds) :
  Calls Tryz.prog 44 #[v, .func (.func 45) #[] #[]] W fun e w' => e = .returned (.bool (ds.any isMain)) /\ Below W.heap.size W w' := by
 have hc := indexMain ds v O W hO h
 obtain ⟨p, c, rfl, hl, hp⟩ := h
 clear hp
 generalize hy : ds.any isMain = y at *
 clear hy
 go_enter Tryz.func44, Tryz.ntmps44
 go_wp2_with fail
 refine hc.mono ?_
 rintro e w1 ⟨z, rfl, hz, hb⟩
 have HB := hid hb
 clear hb hc
 go_wp2
 go_ret
 exact ⟨by first | rfl | (rw [<- hz]; rfl) | (simp [<- hz]; done), HB.out⟩
theorem check_any (ds : List Df) (bs : List Bk) (hnm : ∀ d ∈ ds, d.nm.size <= maxLen) (hlb : bs.length <= 140737488355328) (dv bv : Value) (O : Nat -> Prop) (W : World) (hO : ∀ j, O j -> j < W.heap.size) (hD : DV W O dv ds) (hK : BV W O bv bs) :
  Calls Tryz.prog 28 #[.agg #[dv, bv]] W fun e w' => e = .returned (.int .i64 (chk ds bs)) /\ Below W.heap.size W w' := by
 obtain ⟨p1, c1, e1, _, _⟩ := id hD
 obtain ⟨p2, c2, e2, _⟩ := id hK
 obtain ⟨W1, hW1⟩ : ∃ W1, W.alloc (.cells #[dv, bv] 35) = W1 := ⟨_, rfl⟩
 have v1 : W1.heap[W.heap.size]? = some (.cells [dv, bv].toArray 35 (0, 0)) := by rw [<- hW1]; exact heap_alloc_new W _
 have hB : Below W.heap.size W W1 := by rw [<- hW1]; exact (Below.refl _ _).alloc (Nat.le_refl _) _
 have hs1 : W1.heap.size = W.heap.size + 1 := by rw [<- hW1]; simp
 have hV : ∀ w, Below W1.heap.size W1 w -> w.cell? ⟨W.heap.size, 0, none⟩ = some dv /\ w.cell? ⟨W.heap.size, 1, none⟩ = some bv := fun w hw => by
  have := (hw.block _ (by omega)).trans v1
  exact ⟨S.cell_of w _ 0 _ 35 _ this rfl, S.cell_of w _ 1 _ 35 _ this rfl⟩
 have hw : ∀ w, Below W1.heap.size W1 w -> Below W.heap.size W w := fun w h => hB.trans (h.mono hB.size)
 have hO' : ∀ w, Below W.heap.size W w -> ∀ j, O j -> j < w.heap.size := fun w h j hj => Nat.lt_of_lt_of_le (hO j hj) h.size
 have h1 : ∀ w, Below W1.heap.size W1 w -> Calls Tryz.prog 42 #[dv] w fun e w' => e = .returned (.int .i64 (dsE [] ds)) /\ Below w.heap.size w w' := fun w h => checkDefs_any ds hnm dv O w (hO' w (hw w h)) (hD.below (hw w h) hO)
 have h2 : ∀ w, Below W1.heap.size W1 w -> Calls Tryz.prog 43 #[bv] w fun e w' => e = .returned (.int .i64 (bkE (-1) bs)) /\ Below w.heap.size w w' := fun w h => checkBanks_any bs bv hlb O w (hO' w (hw w h)) (hK.below (hw w h) hO)
 have h3 : ∀ w, Below W1.heap.size W1 w -> Calls Tryz.prog 44 #[dv, .func (.func 45) #[] #[]] w fun e w' => e = .returned (.bool (ds.any isMain)) /\ Below w.heap.size w w' := fun w h => containsMain ds dv O w (hO' w (hw w h)) (hD.below (hw w h) hO)
 have HB := hid hB
 have HV := hid hV
 have H1 := hid h1
 have H2 := hid h2
 have H3 := hid h3
 have HZ : Y.Hd (chk ds bs = if dsE [] ds = 0 then (if bkE (-1) bs = 0 then (if ds.any isMain = true then 0 else 107) else bkE (-1) bs) else dsE [] ds) := ⟨rfl⟩
 have H0 := hid (Below.refl W1.heap.size W1)
 generalize hR : chk ds bs = R at *
 generalize ha : dsE [] ds = a at *
 generalize hb : bkE (-1) bs = b at *
 generalize hc : ds.any isMain = m at *
 clear hR ha hb hc h1 h2 h3 hw hO' hV hs1 hB v1 hD hK hO hnm hlb
 subst e1 e2
 obtain ⟨x0, x1⟩ := HV.out _ H0.out
 go_enter Tryz.func28, Tryz.ntmps28
 go_wp2_with fail
 refine (H1.out _ H0.out).mono ?_
 rintro e w1 ⟨rfl, hb⟩
 have Hw1 := hid (H0.out.trans (hb.mono H0.out.size))
 clear hb x0 x1 hW1
 by_cases ha : a = 0
 ·subst ha
  obtain ⟨x0, x1⟩ := HV.out _ Hw1.out
  go_wp2_with fail
  refine (H2.out _ Hw1.out).mono ?_
  rintro e w2 ⟨rfl, hb⟩
  have Hw2 := hid (Hw1.out.trans (hb.mono Hw1.out.size))
  clear hb x0 x1
  by_cases hb : b = 0
  ·subst hb
   obtain ⟨x0, x1⟩ := HV.out _ Hw2.out
   go_wp2_with fail
   refine (H3.out _ Hw2.out).mono ?_
   rintro e w3 ⟨rfl, hb⟩
   have Hw3 := hid (Hw2.out.trans (hb.mono Hw2.out.size))
   clear hb x0 x1
   cases m
   ·go_wp2
    go_ret
    exact ⟨by rw [HZ.out]; rfl, HB.out.trans (Hw3.out.mono HB.out.size)⟩
   ·go_wp2
    go_ret
    exact ⟨by rw [HZ.out]; rfl, HB.out.trans (Hw3.out.mono HB.out.size)⟩
  ·have hne : (b != 0) = true := by simpa using hb
   have HN := hid hb
   clear hb
   go_wp2
   go_ret
   exact ⟨by rw [show R = b from HZ.out.trans (if_neg HN.out)]; rfl, HB.out.trans (Hw2.out.mono HB.out.size)⟩
 ·have hne : (a != 0) = true := by simpa using ha
  have HN := hid ha
  clear ha
  go_wp2
  go_ret
  exact ⟨by rw [HZ.out, if_neg HN.out]; rfl, HB.out.trans (Hw1.out.mono HB.out.size)⟩
end Go.Proofs.YtlilefhmohkfkaaGreatDoor.R
namespace Go.Proofs.YtlilefhmohkfkaaGreatDoor.E
open Go.Proofs.YtlilefhmohkfkaaGreatDoor.Y (Nd Df Ps)
set_option linter.unusedVariables false
structure Wk where
  i : Int
  d : Int
  r : Int
  nv : Bool
  lf : Int
structure St where
  dead : Bool
  h : Int
  own : List UInt8
abbrev Er := Int × Ps
abbrev X := Wk × St
abbrev Re := Except Er X
structure Ty where
  nm : ByteArray
  i : Int
  o : Int
  d : Int
  r : Int
  nv : Bool
  e : Int
  p : Ps
def w0 : Wk := ⟨0, 0, 0, true, 0⟩
def s0 : St := ⟨false, 0, []⟩
def grown (w : Wk) (i d r : Int) : Wk := { w with i := max w.i i, d := max w.d d, r := max w.r r }
def may (w : Wk) : Bool := decide (w.i <= 256) && (decide (w.d <= 256) && decide (w.r <= 128))
def grow (w : Wk) (i d r : Int) (p : Ps) : Except Er Wk := if may (grown w i d r) then .ok (grown w i d r) else .error (153, p)
def step (x : X) (a b : Int) (p : Ps) : Re :=
  match grow x.1 (a - x.2.h) (x.2.h - a + b) 0 p with
  | .error e => .error e
  | .ok w => .ok (w, { x.2 with h := x.2.h + (b - a) })
def put (x : X) (p : Ps) (ks : List UInt8) : Re :=
  match grow x.1 0 0 ((x.2.own.length + ks.length : Nat) : Int) p with
  | .error e => .error e
  | .ok w => .ok (w, { x.2 with own := x.2.own ++ ks })
def kd (s : St) (n : Nat) : Int := if s.own.length <= n then 0 else ((s.own.getD (s.own.length - 1 - n) 0).toNat : Int)
def rfits (op : Int) (s : St) : Bool := if op = 56 \/ op = 57 then kd s 0 == 4 else if op = 58 then kd s 0 == 3 else if op = 59 then kd s 2 == 3 else true
def prim (op : Int) (p : Ps) (x : X) : Re :=
  if rfits op x.2 = false then .error (152, p) else
  match step x (P.ri op.toNat) (P.ro op.toNat) p with
  | .error e => .error e
  | .ok y => if op = 55 then put y p [4] else if op = 56 then .ok (y.1, { y.2 with own := y.2.own.dropLast }) else if op = 11 then .ok (y.1, { y.2 with dead := true }) else .ok y
def call (t : Option Ty) (p : Ps) (x : X) : Re :=
  match t with
  | none => step x 0 1 p
  | some t => if t.e = 0 then
      match grow x.1 (t.i - x.2.h) (x.2.h + t.d) ((x.2.own.length : Int) + 1 + t.r) p with
      | .error e => .error e
      | .ok w => .ok (w, { x.2 with h := x.2.h + (t.o - t.i), dead := t.nv })
    else .error (t.e, p)
def leave (s : St) (p : Ps) (w : Wk) : Except Er Wk :=
  if s.own = [] then (if w.nv = true \/ w.lf = s.h then .ok { w with nv := false, lf := s.h } else .error (150, p)) else .error (152, p)
def same (a b : St) : Bool := a.dead == b.dead && (a.h == b.h && decide (a.own = b.own))
def back (a b : St) (p : Ps) : Except Er Unit := if a.dead = true \/ same a b = true then .ok () else .error (151, p)
def run : List (X -> Re) -> X -> Re
  | [], x => .ok x
  | f :: r, x => if x.2.dead then .ok x else
    match f x with
    | .error e => .error e
    | .ok y => run r y
def choice (th el : X -> Re) (p : Ps) (x : X) : Re :=
  match step x 1 0 p with
  | .error e => .error e
  | .ok y =>
    match th y with
    | .error e => .error e
    | .ok a =>
      match el (a.1, y.2) with
      | .error e => .error e
      | .ok b => if a.2.dead then .ok b else if b.2.dead = true \/ same a.2 b.2 = true then .ok (b.1, a.2) else .error (150, p)
def until_ (th : X -> Re) (p : Ps) (x : X) : Re :=
  match th x with
  | .error e => .error e
  | .ok a => if a.2.dead then .ok a else
    match step a 1 0 p with
    | .error e => .error e
    | .ok b =>
      match back b.2 x.2 p with
      | .error e => .error e
      | .ok _ => .ok b
def while_ (th el : X -> Re) (p : Ps) (x : X) : Re :=
  match th x with
  | .error e => .error e
  | .ok a => if a.2.dead then .ok a else
    match step a 1 0 p with
    | .error e => .error e
    | .ok b =>
      match el b with
      | .error e => .error e
      | .ok c =>
        match back c.2 x.2 p with
        | .error e => .error e
        | .ok _ => .ok (c.1, b.2)
def again (th : X -> Re) (p : Ps) (x : X) : Re :=
  match th x with
  | .error e => .error e
  | .ok a =>
    match back a.2 x.2 p with
    | .error e => .error e
    | .ok _ => .ok (a.1, ⟨true, 0, []⟩)
def do_ (th : X -> Re) (p : Ps) (x : X) : Re :=
  match step x 2 0 p with
  | .error e => .error e
  | .ok y =>
    match put y p [2, 3] with
    | .error e => .error e
    | .ok z =>
      match th z with
      | .error e => .error e
      | .ok a =>
        match back a.2 z.2 p with
        | .error e => .error e
        | .ok _ => .ok (a.1, { y.2 with dead := a.2.dead })
def nodeB (kn : ByteArray -> Option Ty) (k op : Int) (nm : ByteArray) (p : Ps) (th el : X -> Re) (x : X) : Re :=
  if k = 1 then prim op p x else if k = 2 then step x 0 1 p else if k = 3 then call (kn nm) p x else if k = 4 then choice th el p x else if k = 5 then until_ th p x else if k = 6 then while_ th el p x else if k = 7 then again th p x else if k = 8 then do_ th p x else
  match leave x.2 p x.1 with
  | .error e => .error e
  | .ok w => .ok (w, ⟨true, 0, []⟩)
def node (kn : ByteArray -> Option Ty) : Nd -> X -> Re
  | ⟨k, op, v, nm, th, el, has, p⟩ => nodeB kn k op nm p (run (th.map (node kn))) (run (el.map (node kn)))
def body (kn : ByteArray -> Option Ty) (l : List Nd) : X -> Re := run (l.map (node kn))
theorem node_is (kn : ByteArray -> Option Ty) (n : Nd) : node kn n = nodeB kn n.k n.op n.nm n.p (body kn n.th) (body kn n.el) := by cases n; rw [node]; rfl
theorem body_nil (kn : ByteArray -> Option Ty) (x : X) : body kn [] x = .ok x := rfl
theorem body_cons (kn : ByteArray -> Option Ty) (n : Nd) (r : List Nd) (x : X) : body kn (n :: r) x = if x.2.dead then .ok x else match node kn n x with | .error e => .error e | .ok y => body kn r y := rfl
def word (kn : ByteArray -> Option Ty) (d : Df) : Except Er Wk :=
  match body kn d.body (w0, s0) with
  | .error e => .error e
  | .ok x =>
    match (if x.2.dead then .ok x.1 else leave x.2 d.p x.1) with
    | .error e => .error e
    | .ok w => if w.nv = true \/ w.i + w.lf <= 256 then .ok w else .error (153, d.p)
def tyOf (kn : ByteArray -> Option Ty) (d : Df) : Ty :=
  match word kn d with
  | .error e => ⟨d.nm, 0, 0, 0, 0, false, e.1, e.2⟩
  | .ok w => ⟨d.nm, w.i, if w.nv then 0 else w.i + w.lf, w.d, w.r, w.nv, 0, (0, 0)⟩
def find (l : List Ty) (s : ByteArray) : Option Ty := l.find? fun t => decide (t.nm = s)
def tys : List Ty -> List Df -> List Ty
  | l, [] => l
  | l, d :: r => tys (l ++ [tyOf (find l) d]) r
def wordsOf (ds : List Df) : List Df := ds.filter fun d => d.k == 1
open Go.RowKit
open Go.Proofs
open Go.Proofs.YtlilefhmohkfkaaGreatDoor.Y (Nd Df Ps ndc dfc hid)
set_option linter.unusedVariables false
set_option linter.unusedSimpArgs false
def stc (s : St) : List Value := [.bool s.dead, .int .i64 s.h, .string ⟨s.own.toArray⟩]
def wkc (mv av : Value) (w : Wk) : List Value := [mv, av, .int .i64 w.i, .int .i64 0, .int .i64 w.d, .int .i64 w.r, .bool w.nv, .int .i64 w.lf]
def EW (W : World) (g : Nat) (mv av : Value) (w : Wk) : Prop := W.heap[g]? = some (.cells (wkc mv av w).toArray 112 (0, 0))
def flt (e : Er) : List PanicEntry := [{ v := .iface 109 (.agg #[.int .i64 e.1, .int .i64 e.2.1, .int .i64 e.2.2]), recovered := false }]
structure Gw (g : Nat) (W W' : World) : Prop where
 os : W'.os = W.os
 tape : W'.tape = W.tape
 output : W'.output = W.output
 size : W.heap.size <= W'.heap.size
 block : ∀ k, k < W.heap.size -> k ≠ g -> W'.heap[k]? = W.heap[k]?
theorem Gw.refl (g : Nat) (W : World) : Gw g W W := ⟨rfl, rfl, rfl, Nat.le_refl _, fun _ _ _ => rfl⟩
theorem Gw.trans {g : Nat} {A B C : World} (h : Gw g A B) (k : Gw g B C) : Gw g A C :=
 ⟨k.os.trans h.os, k.tape.trans h.tape, k.output.trans h.output, Nat.le_trans h.size k.size, fun i hi hg => (k.block i (Nat.lt_of_lt_of_le hi h.size) hg).trans (h.block i hi hg)⟩
theorem Gw.of {g : Nat} {A B : World} (h : Below A.heap.size A B) : Gw g A B := ⟨h.os, h.tape, h.output, h.size, fun k hk _ => h.block k hk⟩
theorem Gw.setG {g : Nat} {A B : World} (h : Gw g A B) (i : Nat) (v : Value) : Gw g A (B.setCell ⟨g, i, none⟩ v) :=
 ⟨h.os, h.tape, h.output, by rw [World.size_setCell]; exact h.size, fun k hk hg => (S.setCell_other B g i k v hg).trans (h.block k hk hg)⟩
theorem Gw.setN {g : Nat} {A B : World} (h : Gw g A B) (b i : Nat) (v : Value) (hb : A.heap.size <= b) : Gw g A (B.setCell ⟨b, i, none⟩ v) :=
 ⟨h.os, h.tape, h.output, by rw [World.size_setCell]; exact h.size, fun k hk hg => (S.setCell_other B b i k v (by omega)).trans (h.block k hk hg)⟩
theorem Gw.keep {g : Nat} {A B : World} (h : Gw g A B) {b : Nat} {o : Obj} (e : A.heap[b]? = some o) (hb : b ≠ g) : B.heap[b]? = some o := (h.block b (S.lt_of e) hb).trans e
theorem Gw.below {g : Nat} {W A C : World} (h : Below W.heap.size W A) (k : Gw g A C) (hg : W.heap.size <= g) : Below W.heap.size W C :=
 ⟨k.os.trans h.os, k.tape.trans h.tape, k.output.trans h.output, Nat.le_trans h.size k.size, fun i hi => (k.block i (Nat.lt_of_lt_of_le hi h.size) (by omega)).trans (h.block i hi)⟩
def EO (W : World) (g : Nat) (mv av : Value) {α : Type} (ret : α -> Value) (r : Except Er (Wk × α)) (e : Ending) (w' : World) : Prop :=
 match r with
 | .error er => e = .panicked (flt er) /\ Gw g W w'
 | .ok x => e = .returned (ret x.2) /\ EW w' g mv av x.1 /\ Gw g W w'
def EU (W : World) (g : Nat) (mv av : Value) (r : Except Er Wk) (e : Ending) (w' : World) : Prop :=
 match r with
 | .error er => e = .panicked (flt er) /\ Gw g W w'
 | .ok x => e = .returned (.tuple #[]) /\ EW w' g mv av x /\ Gw g W w'
theorem EW.lt {W : World} {g : Nat} {mv av : Value} {w : Wk} (h : EW W g mv av w) : g < W.heap.size := S.lt_of h
theorem EW.cells {W : World} {g : Nat} {mv av : Value} {w : Wk} (h : EW W g mv av w) : W.cell? ⟨g, 0, none⟩ = some mv /\ W.cell? ⟨g, 1, none⟩ = some av /\ W.cell? ⟨g, 2, none⟩ = some (.int .i64 w.i) /\ W.cell? ⟨g, 3, none⟩ = some (.int .i64 0) /\ W.cell? ⟨g, 4, none⟩ = some (.int .i64 w.d) /\ W.cell? ⟨g, 5, none⟩ = some (.int .i64 w.r) /\ W.cell? ⟨g, 6, none⟩ = some (.bool w.nv) /\ W.cell? ⟨g, 7, none⟩ = some (.int .i64 w.lf) :=
 ⟨S.cell_of W g 0 _ 112 _ h rfl, S.cell_of W g 1 _ 112 _ h rfl, S.cell_of W g 2 _ 112 _ h rfl, S.cell_of W g 3 _ 112 _ h rfl, S.cell_of W g 4 _ 112 _ h rfl, S.cell_of W g 5 _ 112 _ h rfl, S.cell_of W g 6 _ 112 _ h rfl, S.cell_of W g 7 _ 112 _ h rfl⟩
theorem EW.fro {W : World} {g : Nat} {mv av : Value} {w : Wk} (h : EW W g mv av w) (i : Nat) : W.frozen? ⟨g, i, none⟩ = false := S.frozen_of W g i _ 112 h
set_option maxHeartbeats 2000000
set_option maxRecDepth 100000
theorem must_true (e : Int) (p : Ps) (W : World) : Calls Tryz.prog 69 #[.bool true, .int .i64 e, .agg #[.int .i64 p.1, .int .i64 p.2]] W fun r w' => r = .returned (.tuple #[]) /\ Below W.heap.size W w' := by
 go_enter Tryz.func69, Tryz.ntmps69
 go_wp2
 go_end0
 exact ⟨rfl, (Below.refl _ _).alloc (Nat.le_refl _) _⟩
theorem must_false (e : Int) (p : Ps) (W : World) : Calls Tryz.prog 69 #[.bool false, .int .i64 e, .agg #[.int .i64 p.1, .int .i64 p.2]] W fun r w' => r = .panicked (flt (e, p)) /\ Below W.heap.size W w' := by
 obtain ⟨W1, hW1⟩ : ∃ W1, W.alloc (.cells #[.int .i64 p.1, .int .i64 p.2] 25) = W1 := ⟨_, rfl⟩
 have v1 : W1.heap[W.heap.size]? = some (.cells [.int .i64 p.1, .int .i64 p.2].toArray 25 (0, 0)) := by rw [<- hW1]; exact heap_alloc_new W _
 have HB := hid (show Below W.heap.size W W1 by rw [<- hW1]; exact (Below.refl _ _).alloc (Nat.le_refl _) _)
 have x0 := S.cell_of W1 _ 0 _ 25 _ v1 rfl
 have x1 := S.cell_of W1 _ 1 _ 25 _ v1 rfl
 clear v1
 unfold flt
 go_enter Tryz.func69, Tryz.ntmps69
 go_wp2
 exact ⟨rfl, rfl, HB.out⟩
end Go.Proofs.YtlilefhmohkfkaaGreatDoor.E
namespace Go.Proofs.YtlilefhmohkfkaaGreatDoor.E
open Go.RowKit
open Go.Proofs
open Go.Proofs.YtlilefhmohkfkaaGreatDoor.Y (Nd Df Ps ndc dfc hid)
set_option linter.unusedVariables false
set_option linter.unusedSimpArgs false
set_option maxHeartbeats 2000000
set_option maxRecDepth 100000
structure Rw where
 i : Int
 d : Int
 r : Int
 ex : Bool
 xh : Int
 e : Int
 p : Ps
structure Rs where
 h : Int
 own : List Int
 dead : Bool
def rwc (kv : Value) (w : Rw) : List Value := [kv, .int .i64 w.i, .int .i64 w.d, .int .i64 w.r, .bool w.ex, .int .i64 w.xh, .int .i64 w.e, .int .i64 w.p.1, .int .i64 w.p.2]
def RW (W : World) (g : Nat) (kv : Value) (w : Rw) : Prop := W.heap[g]? = some (.cells (rwc kv w).toArray 96 (0, 0))
def eI (a : Int) : List Value := [.int .i64 a]
theorem hEI (a : Int) : (eI a).length = 1 := rfl
theorem oneI (l : List Int) : ∀ u ∈ S.en eI l, u.oneCell' = true := by intro u hu; simp [S.en, eI] at hu; obtain ⟨x, _, rfl⟩ := hu; rfl
def rsc (v : Value) (s : Rs) : List Value := [.int .i64 s.h, v, .bool s.dead]
theorem RW.lt {W : World} {g : Nat} {kv : Value} {w : Rw} (h : RW W g kv w) : g < W.heap.size := S.lt_of h
theorem RW.cells {W : World} {g : Nat} {kv : Value} {w : Rw} (h : RW W g kv w) : W.cell? ⟨g, 0, none⟩ = some kv /\ W.cell? ⟨g, 1, none⟩ = some (.int .i64 w.i) /\ W.cell? ⟨g, 2, none⟩ = some (.int .i64 w.d) /\ W.cell? ⟨g, 3, none⟩ = some (.int .i64 w.r) /\ W.cell? ⟨g, 4, none⟩ = some (.bool w.ex) /\ W.cell? ⟨g, 5, none⟩ = some (.int .i64 w.xh) /\ W.cell? ⟨g, 6, none⟩ = some (.int .i64 w.e) /\ W.cell? ⟨g, 7, none⟩ = some (.int .i64 w.p.1) /\ W.cell? ⟨g, 8, none⟩ = some (.int .i64 w.p.2) :=
 ⟨S.cell_of W g 0 _ _ _ h rfl, S.cell_of W g 1 _ _ _ h rfl, S.cell_of W g 2 _ _ _ h rfl, S.cell_of W g 3 _ _ _ h rfl, S.cell_of W g 4 _ _ _ h rfl, S.cell_of W g 5 _ _ _ h rfl, S.cell_of W g 6 _ _ _ h rfl, S.cell_of W g 7 _ _ _ h rfl, S.cell_of W g 8 _ _ _ h rfl⟩
theorem RW.fro {W : World} {g : Nat} {kv : Value} {w : Rw} (h : RW W g kv w) (i : Nat) : W.frozen? ⟨g, i, none⟩ = false := S.frozen_of W g i _ _ h
theorem RW.below {W W' : World} {g : Nat} {kv : Value} {w : Rw} (h : RW W g kv w) (k : Below W.heap.size W W') : RW W' g kv w := (k.block g h.lt).trans h
def rfail (w : Rw) (e : Int) (p : Ps) : Rw := if w.e = 0 then { w with e := e, p := p } else w
theorem fails_any (w : Rw) (e : Int) (p : Ps) (g : Nat) (kv : Value) (W : World) (h : RW W g kv w) :
  Calls Tryz.prog 59 #[.pointer (some ⟨g, 0, none⟩), .int .i64 e, .agg #[.int .i64 p.1, .int .i64 p.2]] W fun r w' => r = .returned (.tuple #[]) /\ RW w' g kv (rfail w e p) /\ Gw g W w' := by
 obtain ⟨W0, hW0⟩ : ∃ W0, W.alloc (.cells #[.int .i64 p.1, .int .i64 p.2] 25) = W0 := ⟨_, rfl⟩
 have hB : Below W.heap.size W W0 := by rw [<- hW0]; exact (Below.refl _ _).alloc (Nat.le_refl _) _
 have v0 : W0.heap[W.heap.size]? = some (.cells [Value.int .i64 p.1, .int .i64 p.2].toArray 25 (0, 0)) := by rw [<- hW0]; exact heap_alloc_new W _
 have h0 := h.below hB
 have hgl := h.lt
 obtain ⟨c0, c1, c2, c3, c4, c5, c6, c7, c8⟩ := h0.cells
 have x0 := S.cell_of W0 _ 0 _ 25 _ v0 rfl
 have x1 := S.cell_of W0 _ 1 _ 25 _ v0 rfl
 have HH := hid (And.intro h0 (Gw.of (g := g) hB))
 by_cases he : w.e = 0
 ·have hr : rfail w e p = { w with e := e, p := p } := if_pos he
  rw [hr]
  rw [he] at c6
  obtain ⟨y1, hy1⟩ : ∃ y1, W0.setCell ⟨g, 6, none⟩ (.int .i64 e) = y1 := ⟨_, rfl⟩
  have u1 : y1.heap[g]? = some (.cells (rwc kv { w with e := e }).toArray 96 (0, 0)) := by rw [<- hy1]; exact S.setCell_heap W0 g 6 _ _ _ h0
  obtain ⟨y2, hy2⟩ : ∃ y2, y1.setCell ⟨g, 7, none⟩ (.int .i64 p.1) = y2 := ⟨_, rfl⟩
  have u2 : y2.heap[g]? = some (.cells (rwc kv { w with e := e, p := (p.1, w.p.2) }).toArray 96 (0, 0)) := by rw [<- hy2]; exact S.setCell_heap y1 g 7 _ _ _ u1
  obtain ⟨y3, hy3⟩ : ∃ y3, y2.setCell ⟨g, 8, none⟩ (.int .i64 p.2) = y3 := ⟨_, rfl⟩
  have u3 : y3.heap[g]? = some (.cells (rwc kv { w with e := e, p := p }).toArray 96 (0, 0)) := by rw [<- hy3]; exact S.setCell_heap y2 g 8 _ _ _ u2
  have G3 : Gw g W y3 := by rw [<- hy3, <- hy2, <- hy1]; exact ((HH.out.2.setG 6 _).setG 7 _).setG 8 _
  have v1 : y1.heap[W.heap.size]? = some (.cells [Value.int .i64 p.1, .int .i64 p.2].toArray 25 (0, 0)) := by rw [<- hy1]; exact (S.setCell_other W0 g 6 _ _ (by omega)).trans v0
  have z0 := S.cell_of y1 _ 0 _ 25 _ v1 rfl
  have z1 := S.cell_of y1 _ 1 _ 25 _ v1 rfl
  have f6 := S.frozen_of W0 g 6 _ 96 h0
  have f7 := S.frozen_of y1 g 7 _ 96 u1
  have f8 := S.frozen_of y2 g 8 _ 96 u2
  have t7 := S.cell_of y1 g 7 _ 96 _ u1 rfl
  have t8 := S.cell_of y2 g 8 _ 96 _ u2 rfl
  have HF := hid (And.intro u3 G3)
  clear hr he u1 u2 u3 G3 v0 v1 h0 hB h
  go_enter Tryz.func59, Tryz.ntmps59
  go_wp2
  go_end0
  exact ⟨rfl, HF.out.1, HF.out.2⟩
 ·have hr : rfail w e p = w := if_neg he
  rw [hr]
  have hne : (w.e == 0) = false := by simpa using he
  clear hr v0 h0 hB h
  go_enter Tryz.func59, Tryz.ntmps59
  go_wp2
  go_end0
  exact ⟨rfl, HH.out.1, HH.out.2⟩
def rmay (w : Rw) : Bool := decide (w.i <= 256) && (decide (w.d <= 256) && decide (w.r <= 128))
def rmost (w : Rw) (p : Ps) : Rw := if rmay w then w else rfail w 153 p
theorem most_any (w : Rw) (p : Ps) (g : Nat) (kv : Value) (W : World) (h : RW W g kv w) :
  Calls Tryz.prog 85 #[.pointer (some ⟨g, 0, none⟩), .agg #[.int .i64 p.1, .int .i64 p.2]] W fun r w' => r = .returned (.tuple #[]) /\ RW w' g kv (rmost w p) /\ Gw g W w' := by
 obtain ⟨W0, hW0⟩ : ∃ W0, W.alloc (.cells #[.int .i64 p.1, .int .i64 p.2] 25) = W0 := ⟨_, rfl⟩
 have hB : Below W.heap.size W W0 := by rw [<- hW0]; exact (Below.refl _ _).alloc (Nat.le_refl _) _
 have v0 : W0.heap[W.heap.size]? = some (.cells [Value.int .i64 p.1, .int .i64 p.2].toArray 25 (0, 0)) := by rw [<- hW0]; exact heap_alloc_new W _
 have h0 := h.below hB
 obtain ⟨c0, c1, c2, c3, c4, c5, c6, c7, c8⟩ := h0.cells
 have x0 := S.cell_of W0 _ 0 _ 25 _ v0 rfl
 have x1 := S.cell_of W0 _ 1 _ 25 _ v0 rfl
 have HH := hid (And.intro h0 (Gw.of (g := g) hB))
 have hcf := fails_any w 153 p g kv W0 h0
 clear v0 h0 hB h
 have key : rmay w = false -> Y.Hd (rmost w p = rfail w 153 p) := fun hm => ⟨by unfold rmost; rw [hm]; rfl⟩
 by_cases k1 : w.i <= 256
 ·by_cases k2 : w.d <= 256
  ·by_cases k3 : w.r <= 128
   ·have HM : Y.Hd (rmost w p = w) := ⟨by unfold rmost rmay; rw [decide_eq_true k1, decide_eq_true k2, decide_eq_true k3]; rfl⟩
    clear hcf key
    go_enter Tryz.func85, Tryz.ntmps85
    go_wp2
    go_end0
    rw [HM.out]
    exact ⟨rfl, HH.out.1, HH.out.2⟩
   ·have HM := key (by unfold rmay; rw [decide_eq_false k3]; simp)
    clear key
    go_enter Tryz.func85, Tryz.ntmps85
    go_wp2_with fail
    refine hcf.mono ?_
    rintro e w1 ⟨rfl, r1, g1⟩
    have HE := hid (And.intro r1 (HH.out.2.trans g1))
    clear hcf r1 g1
    go_wp2
    go_end0
    rw [HM.out]
    exact ⟨rfl, HE.out.1, HE.out.2⟩
  ·have HM := key (by unfold rmay; rw [decide_eq_false k2]; simp)
   clear key
   go_enter Tryz.func85, Tryz.ntmps85
   go_wp2_with fail
   refine hcf.mono ?_
   rintro e w1 ⟨rfl, r1, g1⟩
   have HE := hid (And.intro r1 (HH.out.2.trans g1))
   clear hcf r1 g1
   go_wp2
   go_end0
   rw [HM.out]
   exact ⟨rfl, HE.out.1, HE.out.2⟩
 ·have HM := key (by unfold rmay; rw [decide_eq_false k1]; simp)
  clear key
  go_enter Tryz.func85, Tryz.ntmps85
  go_wp2_with fail
  refine hcf.mono ?_
  rintro e w1 ⟨rfl, r1, g1⟩
  have HE := hid (And.intro r1 (HH.out.2.trans g1))
  clear hcf r1 g1
  go_wp2
  go_end0
  rw [HM.out]
  exact ⟨rfl, HE.out.1, HE.out.2⟩
end Go.Proofs.YtlilefhmohkfkaaGreatDoor.E
