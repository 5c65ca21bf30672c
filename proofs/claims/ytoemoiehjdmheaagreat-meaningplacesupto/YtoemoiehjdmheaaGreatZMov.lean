import Derived.Test.YtoemoiehjdmheaaGreatZNew
import Derived.Test.YtoemoiehjdmheaaGreatYOwP
import Derived.Deep.Slices
namespace Go.Proofs.YtoemoiehjdmheaaGreat.Z
open Go.RowKit
open Go.Proofs
open Go.Proofs.YtoemoiehjdmheaaGreat.Y (Nd Df Ps Pl hid ZV NZ ZF ndc nl)
set_option linter.unusedVariables false
set_option linter.unusedSimpArgs false
set_option maxHeartbeats 4000000
set_option maxRecDepth 100000
theorem cell_list {W : World} {b : Nat} {cur : Array Value} {t : TypeId} (h : W.heap[b]? = some (.cells cur t (0, 0))) (j : Nat) : W.cell? ⟨b, j, none⟩ = cur.toList[j]? := by rw [cell_of_row W b j cur t (0, 0) h]; simp
theorem set_same {α : Type} (L : List α) (j : Nat) (x : α) (h : L[j]? = some x) : L.set j x = L := List.ext_getElem? fun k => by
 rw [List.getElem?_set]
 split
 ·rename_i e; subst e
  rw [if_pos (List.getElem?_eq_some_iff.1 h).1, h]
 ·rfl
def Inn (O : Nat -> Prop) (W W' : World) : Prop := ∀ b, O b -> (∃ cur, W.heap[b]? = some (.cells cur 90 (0, 0))) -> (∃ cur, W'.heap[b]? = some (.cells cur 90 (0, 0))) /\ ∀ j : Nat, (j % 9 ≠ 7 /\ j % 9 ≠ 8 -> W'.cell? ⟨b, j, none⟩ = W.cell? ⟨b, j, none⟩) /\ (j % 9 = 7 \/ j % 9 = 8 -> (∃ a : Int, W.cell? ⟨b, j, none⟩ = some (.int .i64 a)) -> ∃ a : Int, W'.cell? ⟨b, j, none⟩ = some (.int .i64 a))
structure PW (O : Nat -> Prop) (W W' : World) : Prop where
 os : W'.os = W.os
 tape : W'.tape = W.tape
 output : W'.output = W.output
 size : W'.heap.size = W.heap.size
 out : ∀ i, ¬ O i -> W'.heap[i]? = W.heap[i]?
 inn : ∀ b, O b -> (∃ cur, W.heap[b]? = some (.cells cur 90 (0, 0))) -> (∃ cur, W'.heap[b]? = some (.cells cur 90 (0, 0))) /\ ∀ j : Nat, (j % 9 ≠ 7 /\ j % 9 ≠ 8 -> W'.cell? ⟨b, j, none⟩ = W.cell? ⟨b, j, none⟩) /\ (j % 9 = 7 \/ j % 9 = 8 -> (∃ a : Int, W.cell? ⟨b, j, none⟩ = some (.int .i64 a)) -> ∃ a : Int, W'.cell? ⟨b, j, none⟩ = some (.int .i64 a))
theorem PW.refl (O : Nat -> Prop) (W : World) : PW O W W := ⟨rfl, rfl, rfl, rfl, fun _ _ => rfl, fun b _ h => ⟨h, fun j => ⟨fun _ => rfl, fun _ h => h⟩⟩⟩
theorem PW.trans {O : Nat -> Prop} {W W1 W2 : World} (h : PW O W W1) (k : PW O W1 W2) : PW O W W2 :=
 ⟨k.os.trans h.os, k.tape.trans h.tape, k.output.trans h.output, k.size.trans h.size, fun i hi => (k.out i hi).trans (h.out i hi), fun b hb hc => by
  obtain ⟨h1, h2⟩ := h.inn b hb hc
  obtain ⟨k1, k2⟩ := k.inn b hb h1
  exact ⟨k1, fun j => ⟨fun hj => ((k2 j).1 hj).trans ((h2 j).1 hj), fun hj ha => (k2 j).2 hj ((h2 j).2 hj ha)⟩⟩⟩
theorem PW.again {O : Nat -> Prop} {W : World} {b j : Nat} {x : Value} {cur : Array Value} (h : W.heap[b]? = some (.cells cur 90 (0, 0))) (hx : W.cell? ⟨b, j, none⟩ = some x) : PW O W (W.setCell ⟨b, j, none⟩ x) := by
 have hs : ∀ i, (W.setCell ⟨b, j, none⟩ x).heap[i]? = W.heap[i]? := fun i => by
  by_cases e : i = b
  ·subst e
   have h' : W.heap[i]? = some (.cells cur.toList.toArray 90 (0, 0)) := by simpa using h
   rw [S.setCell_heap W i j _ _ x h', h']
   have hx' := (cell_list h j).symm.trans hx
   congr 2
   rw [set_same _ _ _ hx']
  ·exact S.setCell_other W b j i x e
 exact ⟨rfl, rfl, rfl, S.setCell_size _ _ _, fun i _ => hs i, fun c hc hcur => ⟨by rw [hs c]; exact hcur, fun k => ⟨fun _ => World.cell?_of_block (hs c), fun _ ha => by rw [World.cell?_of_block (a := ⟨c, k, none⟩) (hs c)]; exact ha⟩⟩⟩
theorem PW.put {O : Nat -> Prop} {W : World} {b i : Nat} {cur : Array Value} (x y : Int) (hO : O b) (h : W.heap[b]? = some (.cells cur 90 (0, 0))) (hl : i * 9 + 8 < cur.size) : PW O W ((W.setCell ⟨b, i * 9 + 7, none⟩ (.int .i64 x)).setCell ⟨b, i * 9 + 8, none⟩ (.int .i64 y)) := by
 have h' : W.heap[b]? = some (.cells cur.toList.toArray 90 (0, 0)) := by simpa using h
 have h1 := S.setCell_heap W b (i * 9 + 7) _ _ (.int .i64 x) h'
 have h2 := S.setCell_heap _ b (i * 9 + 8) _ _ (.int .i64 y) h1
 have hc : ∀ j, ((W.setCell ⟨b, i * 9 + 7, none⟩ (.int .i64 x)).setCell ⟨b, i * 9 + 8, none⟩ (.int .i64 y)).cell? ⟨b, j, none⟩ = ((cur.toList.set (i * 9 + 7) (.int .i64 x)).set (i * 9 + 8) (.int .i64 y))[j]? := fun j => by rw [cell_list h2 j]
 have hll : cur.toList.length = cur.size := by simp
 refine ⟨rfl, rfl, rfl, by rw [S.setCell_size, S.setCell_size], fun k hk => ?_, fun c hc' hcur => ?_⟩
 ·have hne : k ≠ b := by rintro rfl; exact hk hO
  rw [S.setCell_other _ b _ k _ hne, S.setCell_other _ b _ k _ hne]
 ·by_cases e : c = b
  ·subst e
   refine ⟨⟨_, h2⟩, fun j => ⟨fun hj => ?_, fun hj ha => ?_⟩⟩
   ·rw [hc j, cell_list h j, List.getElem?_set_ne (by omega), List.getElem?_set_ne (by omega)]
   ·rw [hc j]
    by_cases e8 : j = i * 9 + 8
    ·subst e8
     exact ⟨y, by rw [List.getElem?_set_self (by rw [List.length_set]; omega)]⟩
    ·rw [List.getElem?_set_ne (by omega)]
     by_cases e7 : j = i * 9 + 7
     ·subst e7
      exact ⟨x, by rw [List.getElem?_set_self (by omega)]⟩
     ·rw [List.getElem?_set_ne (by omega), <- cell_list h j]
      exact ha
  ·have o : ((W.setCell ⟨b, i * 9 + 7, none⟩ (.int .i64 x)).setCell ⟨b, i * 9 + 8, none⟩ (.int .i64 y)).heap[c]? = W.heap[c]? := by rw [S.setCell_other _ b _ c _ e, S.setCell_other _ b _ c _ e]
   exact ⟨by rw [o]; exact hcur, fun j => ⟨fun _ => World.cell?_of_block o, fun _ ha => by rw [World.cell?_of_block (a := ⟨c, j, none⟩) o]; exact ha⟩⟩
theorem nz_inn {O : Nat -> Prop} {W W' : World} (P : Inn O W W') {v : Value} {l : List Nd} (h : NZ W O v l) : ∃ l', NZ W' O v l' /\ l'.map erN = l.map erN := by
 refine h (fun v l => ∃ l', NZ W' O v l' /\ l'.map erN = l.map erN) fun v l hv => ?_
 rcases hv with ⟨h1, rfl⟩ | ⟨b, c, rfl, e2, e4, hcur, e3⟩
 ·exact ⟨[], Y.NZ.shut (.inl ⟨h1, rfl⟩), rfl⟩
 ·obtain ⟨hcur', hcell⟩ := P b e2 hcur
  have hex : ∀ i, i < l.length -> ∃ n' : Nd, (∃ tv ev : Value, (∀ (j : Nat) (x : Value), (ndc n' tv ev)[j]? = some x -> W'.cell? ⟨b, i * 9 + j, none⟩ = some x) /\ NZ W' O tv n'.th /\ NZ W' O ev n'.el) /\ ∀ n, l[i]? = some n -> erN n' = erN n := fun i hi => by
   obtain ⟨tv, ev, hc, ⟨th, ht, et⟩, ⟨el, he, ee⟩⟩ := e3 i l[i] (List.getElem?_eq_getElem hi)
   have hn := List.getElem?_eq_getElem hi
   generalize l[i] = n at *
   obtain ⟨a, ha⟩ := (hcell (i * 9 + 7)).2 (.inl (by omega)) ⟨n.p.1, hc 7 _ rfl⟩
   obtain ⟨a', ha'⟩ := (hcell (i * 9 + 8)).2 (.inr (by omega)) ⟨n.p.2, hc 8 _ rfl⟩
   have hs : ∀ j, j < 7 -> ∀ x, (ndc n tv ev)[j]? = some x -> W'.cell? ⟨b, i * 9 + j, none⟩ = some x := fun j hj x hx => ((hcell (i * 9 + j)).1 ⟨by omega, by omega⟩).trans (hc j x hx)
   refine ⟨⟨n.k, n.op, n.v, n.nm, th, el, n.has, (a, a')⟩, ⟨tv, ev, fun j x hx => ?_, ht, he⟩, fun m hm => ?_⟩
   ·match j, hx with
    | 0, hx => exact hs 0 (by decide) x hx
    | 1, hx => exact hs 1 (by decide) x hx
    | 2, hx => exact hs 2 (by decide) x hx
    | 3, hx => exact hs 3 (by decide) x hx
    | 4, hx => exact hs 4 (by decide) x hx
    | 5, hx => exact hs 5 (by decide) x hx
    | 6, hx => exact hs 6 (by decide) x hx
    | 7, hx => cases hx; exact ha
    | 8, hx => cases hx; exact ha'
    | j + 9, hx => simp [ndc] at hx
   ·have e : n = m := Option.some.inj (hn.symm.trans hm)
    subst e
    rw [erN_is, erN_is n]
    simp only [et, ee]
  have hin : Inhabited Nd := ⟨⟨0, 0, 0, ⟨#[]⟩, [], [], false, (0, 0)⟩⟩
  obtain ⟨f, hf⟩ := Deep.choose_lt hex
  have hll : ((List.range l.length).map f).length = l.length := by simp
  have hget : ∀ (i : Nat) (n : Nd), ((List.range l.length).map f)[i]? = some n -> i < l.length /\ n = f i := fun i n hi => by
   have hlt : i < l.length := by have := (List.getElem?_eq_some_iff.1 hi).1; rw [hll] at this; exact this
   rw [List.getElem?_map, List.getElem?_range hlt] at hi
   cases hi
   exact ⟨hlt, rfl⟩
  refine ⟨(List.range l.length).map f, Y.NZ.shut (.inr ⟨b, c, by rw [hll], e2, by rw [hll]; exact e4, hcur', fun i n hi => ?_⟩), ?_⟩
  ·obtain ⟨hlt, rfl⟩ := hget i n hi
   exact (hf i hlt).1
  ·refine List.ext_getElem? fun i => ?_
   rw [List.map_map, List.getElem?_map, List.getElem?_map]
   by_cases hlt : i < l.length
   ·rw [List.getElem?_range hlt, List.getElem?_eq_getElem hlt]
    show some (erN (f i)) = some (erN l[i])
    rw [(hf i hlt).2 l[i] (List.getElem?_eq_getElem hlt)]
   ·rw [List.getElem?_eq_none (by simp; omega), List.getElem?_eq_none (by omega)]
    rfl
theorem nz_moved {O : Nat -> Prop} {W W' : World} (P : PW O W W') {v : Value} {l : List Nd} (h : NZ W O v l) : ∃ l', NZ W' O v l' /\ l'.map erN = l.map erN := nz_inn P.inn h
open Go.Proofs.YtoemoiehjdmheaaGreat.Y (Nd Df Ps Pl hid ZV NZ ZF ndc nl dfc DZ rgN rgN_is rgD)
set_option linter.unusedVariables false
set_option linter.unusedSimpArgs false
set_option maxHeartbeats 4000000
set_option maxRecDepth 100000
theorem put_same {W : World} {b j : Nat} {x : Value} {t : TypeId} {cur : Array Value} (h : W.heap[b]? = some (.cells cur t (0, 0))) (hx : W.cell? ⟨b, j, none⟩ = some x) : ∀ i : Nat, (W.setCell ⟨b, j, none⟩ x).heap[i]? = W.heap[i]? := fun i => by
 by_cases e : i = b
 ·subst e
  have h' : W.heap[i]? = some (.cells cur.toList.toArray t (0, 0)) := by simpa using h
  rw [S.setCell_heap W i j _ _ x h', h']
  have hx' := (cell_list h j).symm.trans hx
  congr 2
  rw [set_same _ _ _ hx']
 ·exact S.setCell_other W b j i x e
structure PD (U : Nat -> Prop) (gb : Nat) (W W' : World) : Prop where
 os : W'.os = W.os
 tape : W'.tape = W.tape
 output : W'.output = W.output
 size : W'.heap.size = W.heap.size
 out : ∀ i, ¬ U i -> i ≠ gb -> W'.heap[i]? = W.heap[i]?
 inn : Inn U W W'
 dfn : (∃ cur, W.heap[gb]? = some (.cells cur 60 (0, 0))) -> (∃ cur, W'.heap[gb]? = some (.cells cur 60 (0, 0))) /\ ∀ j : Nat, (j % 6 ≠ 4 /\ j % 6 ≠ 5 -> W'.cell? ⟨gb, j, none⟩ = W.cell? ⟨gb, j, none⟩) /\ (j % 6 = 4 \/ j % 6 = 5 -> (∃ a : Int, W.cell? ⟨gb, j, none⟩ = some (.int .i64 a)) -> ∃ a : Int, W'.cell? ⟨gb, j, none⟩ = some (.int .i64 a))
theorem Inn.same {U : Nat -> Prop} {W W' : World} (h : ∀ i : Nat, U i -> W'.heap[i]? = W.heap[i]?) : Inn U W W' := fun b hb hc => ⟨by rw [h b hb]; exact hc, fun j => ⟨fun _ => World.cell?_of_block (a := ⟨b, j, none⟩) (h b hb), fun _ ha => by rw [World.cell?_of_block (a := ⟨b, j, none⟩) (h b hb)]; exact ha⟩⟩
theorem PD.refl (U : Nat -> Prop) (gb : Nat) (W : World) : PD U gb W W := ⟨rfl, rfl, rfl, rfl, fun _ _ _ => rfl, Inn.same fun _ _ => rfl, fun h => ⟨h, fun j => ⟨fun _ => rfl, fun _ h => h⟩⟩⟩
theorem PD.trans {U : Nat -> Prop} {gb : Nat} {W W1 W2 : World} (h : PD U gb W W1) (k : PD U gb W1 W2) : PD U gb W W2 :=
 ⟨k.os.trans h.os, k.tape.trans h.tape, k.output.trans h.output, k.size.trans h.size, fun i hi hg => (k.out i hi hg).trans (h.out i hi hg), fun b hb hc => by
  obtain ⟨h1, h2⟩ := h.inn b hb hc
  obtain ⟨k1, k2⟩ := k.inn b hb h1
  exact ⟨k1, fun j => ⟨fun hj => ((k2 j).1 hj).trans ((h2 j).1 hj), fun hj ha => (k2 j).2 hj ((h2 j).2 hj ha)⟩⟩, fun hc => by
  obtain ⟨h1, h2⟩ := h.dfn hc
  obtain ⟨k1, k2⟩ := k.dfn h1
  exact ⟨k1, fun j => ⟨fun hj => ((k2 j).1 hj).trans ((h2 j).1 hj), fun hj ha => (k2 j).2 hj ((h2 j).2 hj ha)⟩⟩⟩
theorem PD.of {U : Nat -> Prop} {gb : Nat} {W W' : World} (h : PW U W W') (hg : ¬ U gb) : PD U gb W W' :=
 ⟨h.os, h.tape, h.output, h.size, fun i hi _ => h.out i hi, h.inn, fun hc => ⟨by rw [h.out gb hg]; exact hc, fun j => ⟨fun _ => World.cell?_of_block (a := ⟨gb, j, none⟩) (h.out gb hg), fun _ ha => by rw [World.cell?_of_block (a := ⟨gb, j, none⟩) (h.out gb hg)]; exact ha⟩⟩⟩
theorem PD.same {U : Nat -> Prop} {gb : Nat} {W W' : World} (hs : W'.os = W.os /\ W'.tape = W.tape /\ W'.output = W.output /\ W'.heap.size = W.heap.size) (h : ∀ i : Nat, W'.heap[i]? = W.heap[i]?) : PD U gb W W' :=
 ⟨hs.1, hs.2.1, hs.2.2.1, hs.2.2.2, fun i _ _ => h i, Inn.same fun i _ => h i, fun hc => ⟨by rw [h gb]; exact hc, fun j => ⟨fun _ => World.cell?_of_block (a := ⟨gb, j, none⟩) (h gb), fun _ ha => by rw [World.cell?_of_block (a := ⟨gb, j, none⟩) (h gb)]; exact ha⟩⟩⟩
theorem PD.again {U : Nat -> Prop} {gb : Nat} {W : World} {b j : Nat} {x : Value} {t : TypeId} {cur : Array Value} (h : W.heap[b]? = some (.cells cur t (0, 0))) (hx : W.cell? ⟨b, j, none⟩ = some x) : PD U gb W (W.setCell ⟨b, j, none⟩ x) := PD.same ⟨rfl, rfl, rfl, S.setCell_size _ _ _⟩ (put_same h hx)
theorem PD.put {U : Nat -> Prop} {W : World} {b i : Nat} {cur : Array Value} (x y : Int) (hO : ¬ U b) (h : W.heap[b]? = some (.cells cur 60 (0, 0))) (hl : i * 6 + 5 < cur.size) : PD U b W ((W.setCell ⟨b, i * 6 + 4, none⟩ (.int .i64 x)).setCell ⟨b, i * 6 + 5, none⟩ (.int .i64 y)) := by
 have h' : W.heap[b]? = some (.cells cur.toList.toArray 60 (0, 0)) := by simpa using h
 have h1 := S.setCell_heap W b (i * 6 + 4) _ _ (.int .i64 x) h'
 have h2 := S.setCell_heap _ b (i * 6 + 5) _ _ (.int .i64 y) h1
 have hc : ∀ j, ((W.setCell ⟨b, i * 6 + 4, none⟩ (.int .i64 x)).setCell ⟨b, i * 6 + 5, none⟩ (.int .i64 y)).cell? ⟨b, j, none⟩ = ((cur.toList.set (i * 6 + 4) (.int .i64 x)).set (i * 6 + 5) (.int .i64 y))[j]? := fun j => by rw [cell_list h2 j]
 have hll : cur.toList.length = cur.size := by simp
 have ho : ∀ k, k ≠ b -> ((W.setCell ⟨b, i * 6 + 4, none⟩ (.int .i64 x)).setCell ⟨b, i * 6 + 5, none⟩ (.int .i64 y)).heap[k]? = W.heap[k]? := fun k hne => by rw [S.setCell_other _ b _ k _ hne, S.setCell_other _ b _ k _ hne]
 refine ⟨rfl, rfl, rfl, by rw [S.setCell_size, S.setCell_size], fun k _ hk => ho k hk, Inn.same fun c hc' => ho c fun e => hO (e ▸ hc'), fun hcur => ⟨⟨_, h2⟩, fun j => ⟨fun hj => ?_, fun hj ha => ?_⟩⟩⟩
 ·rw [hc j, cell_list h j, List.getElem?_set_ne (by omega), List.getElem?_set_ne (by omega)]
 ·rw [hc j]
  by_cases e8 : j = i * 6 + 5
  ·subst e8
   exact ⟨y, by rw [List.getElem?_set_self (by rw [List.length_set]; omega)]⟩
  ·rw [List.getElem?_set_ne (by omega)]
   by_cases e7 : j = i * 6 + 4
   ·subst e7
    exact ⟨x, by rw [List.getElem?_set_self (by omega)]⟩
   ·rw [List.getElem?_set_ne (by omega), <- cell_list h j]
    exact ha
theorem dz_moved {U : Nat -> Prop} {gb : Nat} {W W' : World} (P : PD U gb W W') {v : Value} {ds : List Df} (h : DZ W U gb v ds) : ∃ ds', DZ W' U gb v ds' /\ ds'.map erD = ds.map erD := by
 obtain ⟨p, c, rfl, hl, hcur, h⟩ := h
 by_cases hne : ds = []
 ·subst hne
  exact ⟨[], ⟨p, c, rfl, hl, fun h => absurd rfl h, fun i d hi => by simp at hi⟩, rfl⟩
 obtain ⟨hcur', hcell⟩ := P.dfn (hcur hne)
 have hex : ∀ i, i < ds.length -> ∃ d' : Df, (p = some ⟨gb, 0, none⟩ /\ ∃ bv : Value, (∀ (j : Nat) (x : Value), (dfc d' bv)[j]? = some x -> W'.cell? ⟨gb, i * 6 + j, none⟩ = some x) /\ NZ W' U bv d'.body) /\ ∀ d, ds[i]? = some d -> erD d' = erD d := fun i hi => by
  obtain ⟨hp, bv, hc, hn⟩ := h i ds[i] (List.getElem?_eq_getElem hi)
  have hd := List.getElem?_eq_getElem hi
  generalize ds[i] = d at *
  obtain ⟨l, ht, et⟩ := nz_inn P.inn hn
  obtain ⟨a, ha⟩ := (hcell (i * 6 + 4)).2 (.inl (by omega)) ⟨d.p.1, hc 4 _ rfl⟩
  obtain ⟨a', ha'⟩ := (hcell (i * 6 + 5)).2 (.inr (by omega)) ⟨d.p.2, hc 5 _ rfl⟩
  have hs : ∀ j, j < 4 -> ∀ x, (dfc d bv)[j]? = some x -> W'.cell? ⟨gb, i * 6 + j, none⟩ = some x := fun j hj x hx => ((hcell (i * 6 + j)).1 ⟨by omega, by omega⟩).trans (hc j x hx)
  refine ⟨⟨d.k, d.nm, d.v, l, (a, a')⟩, ⟨hp, bv, fun j x hx => ?_, ht⟩, fun m hm => ?_⟩
  ·match j, hx with
   | 0, hx => exact hs 0 (by decide) x hx
   | 1, hx => exact hs 1 (by decide) x hx
   | 2, hx => exact hs 2 (by decide) x hx
   | 3, hx => exact hs 3 (by decide) x hx
   | 4, hx => cases hx; exact ha
   | 5, hx => cases hx; exact ha'
   | j + 6, hx => simp [dfc] at hx
  ·have e : d = m := Option.some.inj (hd.symm.trans hm)
   subst e
   unfold erD
   simp only [et]
 have hin : Inhabited Df := ⟨⟨0, ⟨#[]⟩, 0, [], (0, 0)⟩⟩
 obtain ⟨f, hf⟩ := Deep.choose_lt hex
 have hll : ((List.range ds.length).map f).length = ds.length := by simp
 refine ⟨(List.range ds.length).map f, ⟨p, c, by rw [hll], by rw [hll]; exact hl, fun _ => hcur', fun i d hi => ?_⟩, ?_⟩
 ·have hlt : i < ds.length := by have := (List.getElem?_eq_some_iff.1 hi).1; rw [hll] at this; exact this
  rw [List.getElem?_map, List.getElem?_range hlt] at hi
  cases hi
  exact (hf i hlt).1
 ·refine List.ext_getElem? fun i => ?_
  rw [List.map_map, List.getElem?_map, List.getElem?_map]
  by_cases hlt : i < ds.length
  ·rw [List.getElem?_range hlt, List.getElem?_eq_getElem hlt]
   show some (erD (f i)) = some (erD ds[i])
   rw [(hf i hlt).2 ds[i] (List.getElem?_eq_getElem hlt)]
  ·rw [List.getElem?_eq_none (by simp; omega), List.getElem?_eq_none (by omega)]
   rfl
theorem nl_er1 (l : List Nd) (h : ∀ m ∈ l, Y.nn (erN m) = Y.nn m) : nl (l.map erN) = nl l := by
 unfold nl; rw [List.map_map]; congr 1; exact List.map_congr_left fun m hm => h m hm
theorem nn_er (n : Nd) : Y.nn (erN n) = Y.nn n := by
 refine Y.Nd.ind (P := fun n => Y.nn (erN n) = Y.nn n) (fun n ht he => ?_) n
 have h1 := nl_er1 n.th ht
 have h2 := nl_er1 n.el he
 rw [erN_is, Y.nn_is, Y.nn_is]
 simp only [h1, h2]
theorem nl_er (l : List Nd) : nl (l.map erN) = nl l := nl_er1 l fun m _ => nn_er m
theorem rg_er (n : Nd) : rgN (erN n) = true ↔ rgN n = true := by
 refine Y.Nd.ind (P := fun n => rgN (erN n) = true ↔ rgN n = true) (fun n ht he => ?_) n
 rw [erN_is, rgN_is, rgN_is]
 simp only [List.forall_mem_map]
 exact ⟨fun ⟨a, b, c⟩ => ⟨a, fun m hm => (ht m hm).1 (b m hm), fun m hm => (he m hm).1 (c m hm)⟩, fun ⟨a, b, c⟩ => ⟨a, fun m hm => (ht m hm).2 (b m hm), fun m hm => (he m hm).2 (c m hm)⟩⟩
theorem rgD_er (d : Df) : rgD (erD d) ↔ rgD d := by
 unfold rgD erD
 simp only [List.forall_mem_map, rg_er]
theorem asks_er {ds es : List Df} (h : es.map erD = ds.map erD) (hd : ∀ d ∈ ds, nl d.body <= 1048576 /\ d.nm.size <= maxLen /\ rgD d) : ∀ d ∈ es, nl d.body <= 1048576 /\ d.nm.size <= maxLen /\ rgD d := fun d hm => by
 have h1 : erD d ∈ ds.map erD := h ▸ List.mem_map.2 ⟨d, hm, rfl⟩
 obtain ⟨e, he, ee⟩ := List.mem_map.1 h1
 obtain ⟨k1, k2, k3⟩ := hd e he
 refine ⟨?_, ?_, ?_⟩
 ·have q : nl (erD e).body = nl (erD d).body := by rw [ee]
  have q1 : nl (erD e).body = nl e.body := nl_er e.body
  have q2 : nl (erD d).body = nl d.body := nl_er d.body
  omega
 ·have q : (erD e).nm.size = (erD d).nm.size := by rw [ee]
  have q1 : (erD e).nm = e.nm := rfl
  have q2 : (erD d).nm = d.nm := rfl
  rw [q1, q2] at q
  omega
 ·exact (rgD_er d).1 (ee ▸ (rgD_er e).2 k3)
set_option maxHeartbeats 4000000
set_option maxRecDepth 100000
def MVD (l : List Nd) : Prop := ∀ l1 : List Nd, l1.map erN = l.map erN -> ∀ (v : Value) (y : Int) (O : Nat -> Prop) (W : World), (∀ i, O i -> i < W.heap.size) -> NZ W O v l1 ->
  Calls Tryz.prog 17 #[v, .int .i64 y] W fun e w' => e = .returned v /\ PW O W w'
theorem nz_ex {W : World} {O : Nat -> Prop} {v : Value} {l : List Nd} (h : NZ W O v l) : ∃ p c, v = .slice p l.length c /\ l.length <= 140737488355328 := by
 obtain ⟨p, c, e, hl, _⟩ := h.nv.ex
 exact ⟨p, c, e, hl⟩
theorem nz_at {W : World} {O : Nat -> Prop} {p : Option Addr} {c : Nat} {l : List Nd} (h : NZ W O (.slice p l.length c) l) (k : Nat) (hk : k < l.length) : ∃ b cur, p = some ⟨b, 0, none⟩ /\ O b /\ W.heap[b]? = some (.cells cur 90 (0, 0)) /\ ∃ tv ev : Value, (∀ (j : Nat) (x : Value), (ndc l[k] tv ev)[j]? = some x -> W.cell? ⟨b, k * 9 + j, none⟩ = some x) /\ NZ W O tv l[k].th /\ NZ W O ev l[k].el := by
 rcases h.out with ⟨_, e⟩ | ⟨b, c', e, hO, _, ⟨cur, hc⟩, h3⟩
 ·rw [e] at hk; exact absurd hk (by simp)
 ·injection e with e1 e2 e3
  subst e1
  exact ⟨b, cur, rfl, hO, hc, h3 k l[k] (List.getElem?_eq_getElem hk)⟩
theorem len_er {l l' : List Nd} (h : l.map erN = l'.map erN) : l.length = l'.length := by
 have := congrArg List.length h
 simpa using this
theorem at_er {l l' : List Nd} (h : l.map erN = l'.map erN) (k : Nat) (hk : k < l.length) (hk' : k < l'.length) : erN l[k] = erN l'[k] := by
 have := congrArg (fun x => x[k]?) h
 simp only [List.getElem?_map, List.getElem?_eq_getElem hk, List.getElem?_eq_getElem hk', Option.map_some, Option.some.injEq] at this
 exact this
theorem th_er {n m : Nd} (h : erN n = erN m) : n.th.map erN = m.th.map erN /\ n.el.map erN = m.el.map erN := by
 rw [erN_is, erN_is m] at h
 injection h with a b c d e f g i
 exact ⟨e, f⟩
theorem size_of_cell {W : World} {b : Nat} {cur : Array Value} {t : TypeId} (h : W.heap[b]? = some (.cells cur t (0, 0))) {j : Nat} {x : Value} (hx : W.cell? ⟨b, j, none⟩ = some x) : j < cur.size := by
 rw [cell_list h j] at hx
 have := (List.getElem?_eq_some_iff.1 hx).1
 simpa using this
theorem moved_of (l : List Nd) (hn : ∀ m ∈ l, MVD m.th /\ MVD m.el) : MVD l := by
 intro l1 hl1 v y O W hO h
 obtain ⟨p, c, rfl, hlen⟩ := nz_ex h
 have HH := hid (And.intro hl1 (And.intro hO (And.intro h hn)))
 clear h hl1 hO hn
 go_enter Tryz.func17, Tryz.ntmps17
 go_wp2
 go_loopw [8] (fun i wr => ∃ k : Nat, k <= l1.length /\ i = .int .i64 (k : Int) /\ PW O W wr) (fun i _ => l1.length - (intOf i).toNat)
 case atStart => exact ⟨0, Nat.zero_le _, rfl, PW.refl O W⟩
 case round =>
  obtain ⟨k, hk, rfl, hP⟩ := hrel
  by_cases hlt : k < l1.length
  ·have i1 : (k : Int) < l1.length := Int.ofNat_lt.mpr hlt
   have w1 : wrap64 ((k : Int) + 1) = ((k + 1 : Nat) : Int) := by unfold wrap64; omega
   obtain ⟨l2, hN2, he2⟩ := nz_moved hP HH.out.2.2.1
   have hl2 := len_er he2
   rw [<- hl2] at hN2
   have hlt2 : k < l2.length := by omega
   obtain ⟨b, cur, rfl, hOb, hblk, tv, ev, hc, ht, he⟩ := nz_at hN2 k hlt2
   have hltl : k < l.length := by have := len_er HH.out.1; omega
   have hen : erN l2[k] = erN l[k] := at_er (he2.trans HH.out.1) k hlt2 hltl
   obtain ⟨ht2, hel2⟩ := th_er hen
   obtain ⟨hm1, hm2⟩ := HH.out.2.2.2 l[k] (List.getElem_mem _)
   generalize l2[k] = n at *
   obtain ⟨q1, d1, rfl, _⟩ := nz_ex ht
   obtain ⟨q2, d2, rfl, _⟩ := nz_ex he
   have hblk' : wr.heap[b]? = some (.cells cur.toList.toArray 90 (0, 0)) := by simpa using hblk
   have c7 := hc 7 _ rfl
   have c8 := hc 8 _ rfl
   have z7 := S.frozen_of wr b (k * 9 + 7) _ _ hblk'
   have z8 := S.frozen_of wr b (k * 9 + 8) _ _ hblk'
   have hput := PW.put (wrap64 (y + (k : Int))) (wrap64 (y - (k : Int))) hOb hblk (size_of_cell hblk c8)
   have HP := hid (And.intro hP (And.intro hblk (And.intro hc (And.intro ht he))))
   have HPUT := hid hput
   have HM := hid (And.intro hm1 (And.intro hm2 (And.intro ht2 hel2)))
   clear hput hP hblk hblk' hc ht he hm1 hm2 hN2 ht2 hel2 hen
   go_upto_region 5 with fail
   generalize hy1 : (wr.setCell ⟨b, k * 9 + 7, none⟩ (.int .i64 (wrap64 (y + (k : Int))))).setCell ⟨b, k * 9 + 8, none⟩ (.int .i64 (wrap64 (y - (k : Int)))) = y1 at *
   have P1 := HPUT.out
   obtain ⟨⟨cur1, hb1⟩, hcl1⟩ := P1.inn b hOb ⟨cur, HP.out.2.1⟩
   have c4 : y1.cell? ⟨b, k * 9 + 4, none⟩ = some (.slice q1 n.th.length d1) := ((hcl1 (k * 9 + 4)).1 ⟨by omega, by omega⟩).trans (HP.out.2.2.1 4 _ rfl)
   obtain ⟨th1, ht1, et1⟩ := nz_moved P1 HP.out.2.2.2.1
   have hO1 : ∀ i, O i -> i < y1.heap.size := fun i hi => by rw [P1.size, HP.out.1.size]; exact HH.out.2.1 i hi
   have k1 := HM.out.1 th1 (et1.trans HM.out.2.2.1) (.slice q1 n.th.length d1) (wrap64 (y + 1)) O y1 hO1 ht1
   have H1 := hid (And.intro P1 (And.intro hb1 hO1))
   clear HPUT hy1 c7 c8 z7 z8 hb1 hcl1 ht1 hO1 P1
   go_wp2_with fail
   refine k1.mono ?_
   rintro e y2 ⟨rfl, P2⟩
   obtain ⟨⟨cur2, hb2⟩, hcl2⟩ := P2.inn b hOb ⟨cur1, H1.out.2.1⟩
   have hb2' : y2.heap[b]? = some (.cells cur2.toList.toArray 90 (0, 0)) := by simpa using hb2
   have c4' : y2.cell? ⟨b, k * 9 + 4, none⟩ = some (.slice q1 n.th.length d1) := ((hcl2 (k * 9 + 4)).1 ⟨by omega, by omega⟩).trans c4
   have z4 := S.frozen_of y2 b (k * 9 + 4) _ _ hb2'
   have P3 : PW O wr (y2.setCell ⟨b, k * 9 + 4, none⟩ (.slice q1 n.th.length d1)) := (H1.out.1.trans P2).trans (PW.again hb2 c4')
   have H3 := hid P3
   clear k1 P2 hb2 hb2' hcl2 c4 P3
   go_upto_region 6 with fail
   generalize y2.setCell ⟨b, k * 9 + 4, none⟩ (.slice q1 n.th.length d1) = y3 at *
   clear c4' z4
   have P3 := H3.out
   obtain ⟨⟨cur3, hb3⟩, hcl3⟩ := P3.inn b hOb ⟨cur, HP.out.2.1⟩
   have c5 : y3.cell? ⟨b, k * 9 + 5, none⟩ = some (.slice q2 n.el.length d2) := ((hcl3 (k * 9 + 5)).1 ⟨by omega, by omega⟩).trans (HP.out.2.2.1 5 _ rfl)
   obtain ⟨el3, he3, ee3⟩ := nz_moved P3 HP.out.2.2.2.2
   have hO3 : ∀ i, O i -> i < y3.heap.size := fun i hi => by rw [P3.size, HP.out.1.size]; exact HH.out.2.1 i hi
   have k3 := HM.out.2.1 el3 (ee3.trans HM.out.2.2.2) (.slice q2 n.el.length d2) (wrap64 (y + 2)) O y3 hO3 he3
   have HB3 := hid hb3
   clear hb3 hcl3 he3 hO3 P3
   go_wp2_with fail
   refine k3.mono ?_
   rintro e y4 ⟨rfl, P4⟩
   obtain ⟨⟨cur4, hb4⟩, hcl4⟩ := P4.inn b hOb ⟨cur3, HB3.out⟩
   have hb4' : y4.heap[b]? = some (.cells cur4.toList.toArray 90 (0, 0)) := by simpa using hb4
   have c5' : y4.cell? ⟨b, k * 9 + 5, none⟩ = some (.slice q2 n.el.length d2) := ((hcl4 (k * 9 + 5)).1 ⟨by omega, by omega⟩).trans c5
   have z5 := S.frozen_of y4 b (k * 9 + 5) _ _ hb4'
   have P5 : PW O W (y4.setCell ⟨b, k * 9 + 5, none⟩ (.slice q2 n.el.length d2)) := ((HP.out.1.trans H3.out).trans P4).trans (PW.again hb4 c5')
   have H5 := hid P5
   clear k3 P4 hb4 hb4' hcl4 c5 P5 H3 H1 HP HB3 HM
   go_wp2
   go_roundw
   case rel => exact ⟨k + 1, hlt, (by first | rfl | rw [w1]), H5.out⟩
   case measure => exact msr2 l1.length _ _ k (by first | rfl | rw [w1]) rfl hlt
  ·have i1 : ¬ (k : Int) < l1.length := fun h => hlt (Int.ofNat_lt.mp h)
   have HP := hid hP
   clear hP
   go_wp2
   go_ret
   exact ⟨rfl, HP.out⟩
theorem moved_all (n : Nd) : MVD n.th /\ MVD n.el := Y.Nd.ind (P := fun n => MVD n.th /\ MVD n.el) (fun n h1 h2 => ⟨moved_of n.th h1, moved_of n.el h2⟩) n
theorem moved_any (l : List Nd) : MVD l := moved_of l fun m _ => moved_all m
end Go.Proofs.YtoemoiehjdmheaaGreat.Z
