import Derived.Test.YtoemoiehjdmheaaGreatRDefs
import Derived.Test.YtoemoiehjdmheaaGreatYBank
namespace Go.Proofs.YtoemoiehjdmheaaGreat.R
open Go.RowKit
open Go.Proofs
open Go.Proofs.YtoemoiehjdmheaaGreat.Y (Nd Df Ps ndc dfc hid NV DV D1 cells6 BV)
open Go.ChangeMaps (setBlock)
set_option linter.unusedVariables false
set_option linter.unusedSimpArgs false
set_option maxHeartbeats 2000000
set_option maxRecDepth 100000
theorem dsE_step (ds : List Df) (k : Nat) (d : Df) (h : ds[k]? = some d) : dsE ((ds.take k).map (·.nm)) (ds.drop k) = if dfE ((ds.take k).map (·.nm)) d = 0 then dsE ((ds.take (k + 1)).map (·.nm)) (ds.drop (k + 1)) else dfE ((ds.take k).map (·.nm)) d := by
 obtain ⟨hk, e⟩ := List.getElem?_eq_some_iff.1 h
 rw [List.drop_eq_getElem_cons hk, e, dsE, List.take_add_one, h]
 simp
theorem take_any (ds : List Df) (k : Nat) (d : Df) (h : ds[k]? = some d) : numb ((ds.take (k + 1)).map (·.nm)) 0 = numb ((ds.take k).map (·.nm)) 0 ++ [(d.nm, (k : Int))] := by
 obtain ⟨hk, e⟩ := List.getElem?_eq_some_iff.1 h
 rw [List.take_add_one, h]
 simp only [Option.toList_some, List.map_append, List.map_cons, List.map_nil]
 rw [numb_append, List.length_map, List.length_take, Nat.zero_add, Nat.min_eq_left (by omega)]
theorem twice_no (names : List ByteArray) (d : Df) (h : dfE names d = 0) : lk (numb names 0) d.nm = none := by
 have h2 : (names.any fun s => decide (s = d.nm)) = false := by
  cases c : (names.any fun s => decide (s = d.nm)) with
  | false => rfl
  | true =>
   unfold dfE at h
   rw [c] at h
   split at h
   ·cases h
   ·split at h
    ·cases h
    ·cases h
 rw [<- lk_numb d.nm names 0] at h2
 cases e : lk (numb names 0) d.nm with
 | none => rfl
 | some v => rw [e] at h2; cases h2
theorem checkDefs_any (ds : List Df) (hnm : ∀ d ∈ ds, d.nm.size <= maxLen) (v : Value) (O : Nat -> Prop) (W : World) (hO : ∀ j, O j -> j < W.heap.size) (h : DV W O v ds) :
  Calls Tryz.prog 44 #[v] W fun e w' => e = .returned (.int .i64 (dsE [] ds)) /\ Below W.heap.size W w' := by
 obtain ⟨p, c, rfl, hl, hp⟩ := h
 obtain ⟨W0, hW0⟩ : ∃ W0, W.alloc (.map #[] 0) = W0 := ⟨_, rfl⟩
 obtain ⟨W1, hW1⟩ : ∃ W1, W0.alloc (.cells #[.map (some W.heap.size)] 166) = W1 := ⟨_, rfl⟩
 have hs0 : W0.heap.size = W.heap.size + 1 := by rw [<- hW0]; simp
 have hB : Below W.heap.size W W1 := by rw [<- hW1, <- hW0]; exact ((Below.refl _ _).alloc (Nat.le_refl _) _).alloc (by simp) _
 have v0 : MP W1 W.heap.size [] := by rw [<- hW1]; exact MP.kept (by rw [<- hW0]; exact MP.made W) (Below.heap_alloc _ _ _ (by omega))
 have v1 : W1.heap[W0.heap.size]? = some (.cells [.map (some W.heap.size)].toArray 166 (0, 0)) := by rw [<- hW1]; exact heap_alloc_new W0 _
 have HV := hid (And.intro v0 (And.intro v1 (And.intro hs0 hB)))
 clear v0 v1 hs0 hB
 have hmm := @run_makeMap Tryz.prog
 go_enter Tryz.func44, Tryz.ntmps44
 go_wp2
 clear hW0 hW1 hmm
 go_loopw [11] (fun ix wr => ∃ k : Nat, k <= ds.length /\ ix = .int .i64 (k : Int) /\ Below W.heap.size W wr /\ MP wr W.heap.size (numb ((ds.take k).map (·.nm)) 0) /\ wr.heap[W0.heap.size]? = some (.cells [.map (some W.heap.size)].toArray 166 (0, 0)) /\ dsE [] ds = dsE ((ds.take k).map (·.nm)) (ds.drop k)) (fun ix _ => ds.length - (intOf ix).toNat)
 case atStart => exact ⟨0, by omega, rfl, HV.out.2.2.2, HV.out.1, HV.out.2.1, rfl⟩
 case round =>
  obtain ⟨k, hk, rfl, hb, hM, hc, hE⟩ := hrel
  by_cases hlt : k < ds.length
  ·have i1 : (k : Int) < ds.length := by omega
   have ea := List.getElem?_eq_getElem hlt
   have hsz := hnm ds[k] (List.getElem_mem _)
   generalize ds[k] = d at *
   obtain ⟨b, o, rfl, hOb, bv, hcl, hN⟩ := hp k d ea
   obtain ⟨q, cq, rfl, _, _⟩ := hN.ex
   have k1 := hb.block b (hO b hOb)
   obtain ⟨g0, g1, g2, g3, g4, g5⟩ := cells6 fun j x hx => (World.cell?_of_block (w := W) (a := ⟨b, o + k * 6 + j, none⟩) k1).trans (hcl j x hx)
   obtain ⟨W2, hW2⟩ : ∃ W2, wr.alloc (.cells #[.int .i64 d.k, .string d.nm, .int .u16 d.v, .slice q d.body.length cq, .int .i64 d.p.1, .int .i64 d.p.2] 60) = W2 := ⟨_, rfl⟩
   have z2 : Below wr.heap.size wr W2 := by rw [<- hW2]; exact (Below.refl _ _).alloc (Nat.le_refl _) _
   have v2 : W2.heap[wr.heap.size]? = some (.cells (dfc d (.slice q d.body.length cq)).toArray 60 (0, 0)) := by rw [<- hW2]; exact heap_alloc_new wr _
   have hB2 : Below W.heap.size W W2 := hb.trans (z2.mono hb.size)
   obtain ⟨x0, x1, x2, x3, x4, x5⟩ := cells6 (b := wr.heap.size) (o := 0) fun j x hx => by rw [Nat.zero_add]; exact S.cell_of W2 _ j _ 60 x v2 hx
   simp only [Nat.zero_add] at x1 x2 x3 x4 x5
   have hM2 : MP W2 W.heap.size (numb ((ds.take k).map (·.nm)) 0) := hM.below z2 hM.lt
   have hc2 := (z2.block _ (S.lt_of hc)).trans hc
   have c0 := S.cell_of W2 _ 0 _ 166 _ hc2 rfl
   have hcall := def_any ((ds.take k).map (·.nm)) d hsz _ O W.heap.size W2 (fun j hj => Nat.lt_of_lt_of_le (hO j hj) hB2.size) (hN.below hB2 hO) hM2
   unfold dfc at hcall
   have HH := hid (And.intro hB2 (And.intro hM2 (And.intro hc2 (And.intro v2 (And.intro hE (And.intro ea hk))))))
   clear z2 v2 hb hB2 k1 hp hN hcl hnm hO ea hE hM hM2 hc hc2 hk
   generalize hy : dfE ((ds.take k).map (·.nm)) d = y at *
   have HY := hid hy
   clear hy
   go_wp2_with fail
   refine hcall.mono ?_
   rintro e w3 ⟨rfl, hb3⟩
   have HB3 := hid hb3
   clear hcall hb3 x0 x1 x2 x3 x4 x5 g0 g1 g2 g3 g4 g5 c0 hW2
   by_cases hz : y = 0
   ·subst hz
    have hM3 : MP w3 W.heap.size (numb ((ds.take k).map (·.nm)) 0) := HH.out.2.1.below HB3.out HH.out.2.1.lt
    have hput := run_put w3 W.heap.size d.nm (k : Int) _ hM3 (twice_no _ d HY.out)
    have hM4 := hM3.put d.nm (k : Int)
    rw [<- take_any ds k d HH.out.2.2.2.2.2.1] at hput hM4
    have u3 := (HB3.out.block _ (S.lt_of HH.out.2.2.1)).trans HH.out.2.2.1
    have u4 := (HB3.out.block _ (S.lt_of HH.out.2.2.2.1)).trans HH.out.2.2.2.1
    have c0 := S.cell_of w3 _ 0 _ 166 _ u3 rfl
    have x1 := S.cell_of w3 _ 1 _ 60 _ u4 rfl
    have hne : W0.heap.size ≠ W.heap.size := by have := HV.out.2.2.1; omega
    have hbW : Below W.heap.size W w3 := HH.out.1.trans (HB3.out.mono HH.out.1.size)
    have HB4 := hid (below_setBlock hbW W.heap.size (Nat.le_refl _) (.map (ents 0 (numb ((ds.take (k + 1)).map (·.nm)) 0)).toArray (numb ((ds.take (k + 1)).map (·.nm)) 0).length))
    have HC4 := hid ((setBlock_other w3 W.heap.size W0.heap.size (.map (ents 0 (numb ((ds.take (k + 1)).map (·.nm)) 0)).toArray (numb ((ds.take (k + 1)).map (·.nm)) 0).length) hne).trans u3)
    have HM4 := hid hM4
    generalize setBlock w3 W.heap.size (.map (ents 0 (numb ((ds.take (k + 1)).map (·.nm)) 0)).toArray (numb ((ds.take (k + 1)).map (·.nm)) 0).length) = w4 at *
    have HE4 : Y.Hd (dsE [] ds = dsE ((ds.take (k + 1)).map (·.nm)) (ds.drop (k + 1))) := ⟨by rw [HH.out.2.2.2.2.1, dsE_step ds k d HH.out.2.2.2.2.2.1, HY.out, if_pos rfl]⟩
    clear hM3 hM4 u3 u4 hne hbW
    go_wp2
    go_roundw
    case rel =>
     first
      | exact ⟨k + 1, by omega, by go_num, HB4.out, HM4.out, HC4.out, HE4.out⟩
      | ((repeat apply Exists.intro); refine ⟨⟨k + 1, by omega, ?_, HB4.out, HM4.out, HC4.out, HE4.out⟩, rfl⟩; go_num)
    case measure => simp [intOf]; omega
   ·have hne : (y != 0) = true := by simpa using hz
    have HZ := hid hz
    clear hz
    go_wp2
    go_ret
    exact ⟨by rw [HH.out.2.2.2.2.1, dsE_step ds k d HH.out.2.2.2.2.2.1, HY.out, if_neg HZ.out]; rfl, HH.out.1.trans (HB3.out.mono HH.out.1.size)⟩
  ·have i1 : ¬ (k : Int) < ds.length := by omega
   rw [List.drop_of_length_le (by omega), dsE] at hE
   have HEE := hid hE
   clear hE
   go_wp2
   go_ret
   exact ⟨by rw [HEE.out]; rfl, hb⟩
theorem bkE_cons (last : Int) (b : Bk) (r : List Bk) : bkE last (b :: r) = if b.1 < 0 \/ 16 <= b.1 \/ 16384 < b.2.length then 106 else if b.1 <= last then 102 else bkE b.1 r := rfl
theorem checkBanks_any (bs : List Bk) (v : Value) (hlb : bs.length <= 140737488355328) (O : Nat -> Prop) (W : World) (hO : ∀ j, O j -> j < W.heap.size) (h : BV W O v bs) :
  Calls Tryz.prog 45 #[v] W fun e w' => e = .returned (.int .i64 (bkE (-1) bs)) /\ Below W.heap.size W w' := by
 obtain ⟨p, c, rfl, hp⟩ := h
 go_enter Tryz.func45, Tryz.ntmps45
 go_wp2
 go_loopw [3, 8] (fun la ix wr => ∃ (k : Nat) (z : Int), k <= bs.length /\ ix = .int .i64 (k : Int) /\ la = .int .i64 z /\ Below W.heap.size W wr /\ bkE (-1) bs = bkE z (bs.drop k)) (fun _ ix _ => bs.length - (intOf ix).toNat)
 case atStart => exact ⟨0, -1, by omega, rfl, rfl, Below.refl _ _, rfl⟩
 case round =>
  obtain ⟨k, z, hk, rfl, rfl, hb, hE⟩ := hrel
  by_cases hlt : k < bs.length
  ·have i1 : (k : Int) < bs.length := by omega
   have ea := List.getElem?_eq_getElem hlt
   have hd : bs.drop k = bs[k] :: bs.drop (k + 1) := List.drop_eq_getElem_cons hlt
   generalize bs[k] = d at *
   obtain ⟨b, o, rfl, hOb, bv, ⟨hc0, hc1⟩, hN⟩ := hp k d ea
   obtain ⟨q, cq, rfl⟩ := hN.ex
   have k1 := hb.block b (hO b hOb)
   have g0 := (World.cell?_of_block (w := W) (a := ⟨b, o + k * 2, none⟩) k1).trans hc0
   have g1 := (World.cell?_of_block (w := W) (a := ⟨b, o + k * 2 + 1, none⟩) k1).trans hc1
   obtain ⟨n, l⟩ := d
   simp only at g0 g1
   obtain ⟨W2, hW2⟩ : ∃ W2, wr.alloc (.cells #[.int .i64 n, .slice q l.length cq] 114) = W2 := ⟨_, rfl⟩
   have z2 : Below wr.heap.size wr W2 := by rw [<- hW2]; exact (Below.refl _ _).alloc (Nat.le_refl _) _
   have v2 : W2.heap[wr.heap.size]? = some (.cells [.int .i64 n, .slice q l.length cq].toArray 114 (0, 0)) := by rw [<- hW2]; exact heap_alloc_new wr _
   have x0 := S.cell_of W2 _ 0 _ 114 _ v2 rfl
   have x1 := S.cell_of W2 _ 1 _ 114 _ v2 rfl
   have HB2 := hid (hb.trans (z2.mono hb.size))
   have HE : Y.Hd (bkE (-1) bs = if n < 0 \/ 16 <= n \/ 16384 < l.length then 106 else if n <= z then 102 else bkE n (bs.drop (k + 1))) := ⟨by rw [hE, hd, bkE_cons]⟩
   clear z2 v2 hb k1 hc0 hc1 hN hp hE hd ea hO
   by_cases t1 : n < 0
   ·have d1 : decide (n < 0) = true := decide_eq_true t1
    have HR : Y.Hd (bkE (-1) bs = 106) := ⟨by rw [HE.out, if_pos (Or.inl t1)]⟩
    go_wp2
    go_ret
    exact ⟨by rw [HR.out]; rfl, HB2.out⟩
   ·have d1 : decide (n < 0) = false := decide_eq_false t1
    by_cases t2 : 16 <= n
    ·have d2 : decide (16 <= n) = true := decide_eq_true t2
     have d2' : decide (n ≥ 16) = true := decide_eq_true t2
     have HR : Y.Hd (bkE (-1) bs = 106) := ⟨by rw [HE.out, if_pos (Or.inr (Or.inl t2))]⟩
     go_wp2
     go_ret
     exact ⟨by rw [HR.out]; rfl, HB2.out⟩
    ·have d2 : decide (16 <= n) = false := decide_eq_false t2
     have d2' : decide (n ≥ 16) = false := decide_eq_false t2
     by_cases t3 : 16384 < l.length
     ·have d3 : decide ((l.length : Int) > 16384) = true := decide_eq_true (by omega)
      have d3' : decide ((16384 : Int) < (l.length : Int)) = true := decide_eq_true (by omega)
      have HR : Y.Hd (bkE (-1) bs = 106) := ⟨by rw [HE.out, if_pos (Or.inr (Or.inr t3))]⟩
      go_wp2
      go_ret
      exact ⟨by rw [HR.out]; rfl, HB2.out⟩
     ·have d3 : decide ((l.length : Int) > 16384) = false := decide_eq_false (by omega)
      have d3' : decide ((16384 : Int) < (l.length : Int)) = false := decide_eq_false (by omega)
      by_cases t4 : n <= z
      ·have d4 : decide (n <= z) = true := decide_eq_true t4
       have HR : Y.Hd (bkE (-1) bs = 102) := ⟨by rw [HE.out, if_neg (by omega), if_pos t4]⟩
       go_wp2
       go_ret
       exact ⟨by rw [HR.out]; rfl, HB2.out⟩
      ·have d4 : decide (n <= z) = false := decide_eq_false t4
       have HR : Y.Hd (bkE (-1) bs = bkE n (bs.drop (k + 1))) := ⟨by rw [HE.out, if_neg (by omega), if_neg t4]⟩
       go_wp2
       go_roundw
       case rel =>
        first
         | exact ⟨k + 1, n, by omega, by go_num, rfl, HB2.out, HR.out⟩
         | ((repeat apply Exists.intro); refine ⟨⟨k + 1, n, by omega, ?_, rfl, HB2.out, HR.out⟩, rfl⟩; go_num)
       case measure => simp [intOf]; omega
  ·have i1 : ¬ (k : Int) < bs.length := by omega
   rw [List.drop_of_length_le (by omega), bkE] at hE
   have HEE := hid hE
   clear hE
   go_wp2
   go_ret
   exact ⟨by rw [HEE.out]; rfl, hb⟩
set_option maxHeartbeats 2000000
set_option maxRecDepth 100000
theorem any_take (ds : List Df) (k : Nat) (d : Df) (h : ds[k]? = some d) (h0 : (ds.take k).any isMain = false) : (ds.take (k + 1)).any isMain = isMain d := by
 rw [List.take_add_one, h, List.any_append, h0]
 simp
theorem any_of (ds : List Df) (k : Nat) (h : (ds.take k).any isMain = true) : ds.any isMain = true := by
 rw [<- List.take_append_drop k ds, List.any_append, h, Bool.true_or]
theorem indexMain (ds : List Df) (v : Value) (O : Nat -> Prop) (W : World) (hO : ∀ j, O j -> j < W.heap.size) (h : DV W O v ds) :
  Calls Tryz.prog 61 #[v, .func (.func 47) #[] #[]] W fun e w' => ∃ z : Int, e = .returned (.int .i64 z) /\ decide (0 <= z) = ds.any isMain /\ Below W.heap.size W w' := by
 obtain ⟨p, c, rfl, hl, hp⟩ := h
 go_enter Tryz.func61, Tryz.ntmps61
 go_wp2
 go_loopw [8] (fun ix wr => ∃ k : Nat, k <= ds.length /\ ix = .int .i64 (k : Int) /\ Below W.heap.size W wr /\ (ds.take k).any isMain = false) (fun ix _ => ds.length - (intOf ix).toNat)
 case atStart => exact ⟨0, by omega, rfl, Below.refl _ _, rfl⟩
 case round =>
  obtain ⟨k, hk, rfl, hb, hE⟩ := hrel
  by_cases hlt : k < ds.length
  ·have i1 : (k : Int) < ds.length := by omega
   have ea := List.getElem?_eq_getElem hlt
   generalize ds[k] = d at *
   obtain ⟨b, o, rfl, hOb, bv, hcl, hN⟩ := hp k d ea
   obtain ⟨q, cq, rfl, _, _⟩ := hN.ex
   have k1 := hb.block b (hO b hOb)
   obtain ⟨g0, g1, g2, g3, g4, g5⟩ := cells6 fun j x hx => (World.cell?_of_block (w := W) (a := ⟨b, o + k * 6 + j, none⟩) k1).trans (hcl j x hx)
   have hcall := isMain_any d q d.body.length cq wr
   unfold dfc at hcall
   have HT := hid (any_take ds k d ea hE)
   have HB := hid hb
   have HE := hid hE
   clear k1 hp hN hcl hO ea hE hb
   generalize hy : isMain d = y at *
   clear hy
   go_wp2_with fail
   refine hcall.mono ?_
   rintro e w3 ⟨rfl, hb3⟩
   have HB3 := hid (HB.out.trans (hb3.mono HB.out.size))
   clear hcall hb3 g0 g1 g2 g3 g4 g5
   cases y
   ·go_wp2
    go_roundw
    case rel =>
     first
      | exact ⟨k + 1, by omega, by go_num, HB3.out, HT.out⟩
      | ((repeat apply Exists.intro); refine ⟨⟨k + 1, by omega, ?_, HB3.out, HT.out⟩, rfl⟩; go_num)
    case measure => simp [intOf]; omega
   ·go_wp2
    go_ret
    exact ⟨(k : Int), rfl, by rw [any_of ds _ HT.out]; simp, HB3.out⟩
  ·have i1 : ¬ (k : Int) < ds.length := by omega
   rw [List.take_of_length_le (by omega)] at hE
   have HE := hid hE
   clear hE
   go_wp2
   go_ret
   exact ⟨-1, rfl, by rw [HE.out]; rfl, hb⟩
theorem containsMain (ds : List Df) (v : Value) (O : Nat -> Prop) (W : World) (hO : ∀ j, O j -> j < W.heap.size) (h : DV W O v ds) :
  Calls Tryz.prog 46 #[v, .func (.func 47) #[] #[]] W fun e w' => e = .returned (.bool (ds.any isMain)) /\ Below W.heap.size W w' := by
 have hc := indexMain ds v O W hO h
 obtain ⟨p, c, rfl, hl, hp⟩ := h
 clear hp
 generalize hy : ds.any isMain = y at *
 clear hy
 go_enter Tryz.func46, Tryz.ntmps46
 go_wp2_with fail
 refine hc.mono ?_
 rintro e w1 ⟨z, rfl, hz, hb⟩
 have HB := hid hb
 clear hb hc
 go_wp2
 go_ret
 exact ⟨by first | rfl | (rw [<- hz]; rfl) | (simp [<- hz]; done), HB.out⟩
theorem check_any (ds : List Df) (bs : List Bk) (hnm : ∀ d ∈ ds, d.nm.size <= maxLen) (hlb : bs.length <= 140737488355328) (dv bv : Value) (O : Nat -> Prop) (W : World) (hO : ∀ j, O j -> j < W.heap.size) (hD : DV W O dv ds) (hK : BV W O bv bs) :
  Calls Tryz.prog 31 #[.agg #[dv, bv]] W fun e w' => e = .returned (.int .i64 (chk ds bs)) /\ Below W.heap.size W w' := by
 obtain ⟨p1, c1, e1, _, _⟩ := id hD
 obtain ⟨p2, c2, e2, _⟩ := id hK
 obtain ⟨W1, hW1⟩ : ∃ W1, W.alloc (.cells #[dv, bv] 47) = W1 := ⟨_, rfl⟩
 have v1 : W1.heap[W.heap.size]? = some (.cells [dv, bv].toArray 47 (0, 0)) := by rw [<- hW1]; exact heap_alloc_new W _
 have hB : Below W.heap.size W W1 := by rw [<- hW1]; exact (Below.refl _ _).alloc (Nat.le_refl _) _
 have hs1 : W1.heap.size = W.heap.size + 1 := by rw [<- hW1]; simp
 have hV : ∀ w, Below W1.heap.size W1 w -> w.cell? ⟨W.heap.size, 0, none⟩ = some dv /\ w.cell? ⟨W.heap.size, 1, none⟩ = some bv := fun w hw => by
  have := (hw.block _ (by omega)).trans v1
  exact ⟨S.cell_of w _ 0 _ 47 _ this rfl, S.cell_of w _ 1 _ 47 _ this rfl⟩
 have hw : ∀ w, Below W1.heap.size W1 w -> Below W.heap.size W w := fun w h => hB.trans (h.mono hB.size)
 have hO' : ∀ w, Below W.heap.size W w -> ∀ j, O j -> j < w.heap.size := fun w h j hj => Nat.lt_of_lt_of_le (hO j hj) h.size
 have h1 : ∀ w, Below W1.heap.size W1 w -> Calls Tryz.prog 44 #[dv] w fun e w' => e = .returned (.int .i64 (dsE [] ds)) /\ Below w.heap.size w w' := fun w h => checkDefs_any ds hnm dv O w (hO' w (hw w h)) (hD.below (hw w h) hO)
 have h2 : ∀ w, Below W1.heap.size W1 w -> Calls Tryz.prog 45 #[bv] w fun e w' => e = .returned (.int .i64 (bkE (-1) bs)) /\ Below w.heap.size w w' := fun w h => checkBanks_any bs bv hlb O w (hO' w (hw w h)) (hK.below (hw w h) hO)
 have h3 : ∀ w, Below W1.heap.size W1 w -> Calls Tryz.prog 46 #[dv, .func (.func 47) #[] #[]] w fun e w' => e = .returned (.bool (ds.any isMain)) /\ Below w.heap.size w w' := fun w h => containsMain ds dv O w (hO' w (hw w h)) (hD.below (hw w h) hO)
 have HB := hid hB
 have HV := hid hV
 have H1 := hid h1
 have H2 := hid h2
 have H3 := hid h3
 have HZ : Y.Hd (chk ds bs = if dsE [] ds = 0 then (if bkE (-1) bs = 0 then (if ds.any isMain = true then 0 else 107) else bkE (-1) bs) else dsE [] ds) := ⟨rfl⟩
 have H0 := hid (Below.refl W1.heap.size W1)
 generalize hR : chk ds bs = R at *
 generalize ha : dsE [] ds = a at *
 generalize hb : bkE (-1) bs = b at *
 generalize hc : ds.any isMain = m at *
 clear hR ha hb hc h1 h2 h3 hw hO' hV hs1 hB v1 hD hK hO hnm hlb
 subst e1 e2
 obtain ⟨x0, x1⟩ := HV.out _ H0.out
 go_enter Tryz.func31, Tryz.ntmps31
 go_wp2_with fail
 refine (H1.out _ H0.out).mono ?_
 rintro e w1 ⟨rfl, hb⟩
 have Hw1 := hid (H0.out.trans (hb.mono H0.out.size))
 clear hb x0 x1 hW1
 by_cases ha : a = 0
 ·subst ha
  obtain ⟨x0, x1⟩ := HV.out _ Hw1.out
  go_wp2_with fail
  refine (H2.out _ Hw1.out).mono ?_
  rintro e w2 ⟨rfl, hb⟩
  have Hw2 := hid (Hw1.out.trans (hb.mono Hw1.out.size))
  clear hb x0 x1
  by_cases hb : b = 0
  ·subst hb
   obtain ⟨x0, x1⟩ := HV.out _ Hw2.out
   go_wp2_with fail
   refine (H3.out _ Hw2.out).mono ?_
   rintro e w3 ⟨rfl, hb⟩
   have Hw3 := hid (Hw2.out.trans (hb.mono Hw2.out.size))
   clear hb x0 x1
   cases m
   ·go_wp2
    go_ret
    exact ⟨by rw [HZ.out]; rfl, HB.out.trans (Hw3.out.mono HB.out.size)⟩
   ·go_wp2
    go_ret
    exact ⟨by rw [HZ.out]; rfl, HB.out.trans (Hw3.out.mono HB.out.size)⟩
  ·have hne : (b != 0) = true := by simpa using hb
   have HN := hid hb
   clear hb
   go_wp2
   go_ret
   exact ⟨by rw [show R = b from HZ.out.trans (if_neg HN.out)]; rfl, HB.out.trans (Hw2.out.mono HB.out.size)⟩
 ·have hne : (a != 0) = true := by simpa using ha
  have HN := hid ha
  clear ha
  go_wp2
  go_ret
  exact ⟨by rw [HZ.out, if_neg HN.out]; rfl, HB.out.trans (Hw1.out.mono HB.out.size)⟩
end Go.Proofs.YtoemoiehjdmheaaGreat.R
