import Derived.Test.YtdnklgceghllaaaGreatDoorDWord
import Derived.Test.YtdnklgceghllaaaGreatDoorDSort
import Derived.Test.YtdnklgceghllaaaGreatDoorRDefs
namespace Go.Proofs.YtdnklgceghllaaaGreatDoor.D
open Go.RowKit
open Go.Proofs
open Go.Proofs.YtdnklgceghllaaaGreatDoor.K (Tk)
open Go.Proofs.YtdnklgceghllaaaGreatDoor.Y (Nd Df Ps ndc dfc NV NA N1 ZV hid DV D1 BV B1 BS own_bs)
open Go.Proofs.YtdnklgceghllaaaGreatDoor.R (MP En numb)
set_option linter.unusedVariables false
set_option linter.unusedSimpArgs false
set_option maxHeartbeats 2000000
set_option maxRecDepth 100000
def New (W0 w : World) (j : Nat) : Prop := W0.heap.size <= j /\ j < w.heap.size
theorem dcs_at : ∀ (l : List Df) (ws : List Value) (i : Nat) (d : Df) (w : Value), l[i]? = some d -> ws[i]? = some w -> ∀ (j : Nat) (x : Value), (dfc d w)[j]? = some x -> (dcs l ws)[i * 6 + j]? = some x
 | m :: l, z :: ys, 0, d, w, hl, hy, j, x, hx => by
  simp only [List.getElem?_cons_zero, Option.some.injEq] at hl hy
  subst hl hy
  rw [dcs, List.getElem?_append_left (by rw [Nat.zero_mul, Nat.zero_add]; exact (List.getElem?_eq_some_iff.1 hx).1), Nat.zero_mul, Nat.zero_add]
  exact hx
 | m :: l, z :: ys, i + 1, d, w, hl, hy, j, x, hx => by
  have h9 : (dfc m z).length = 6 := rfl
  have := dcs_at l ys i d w (by simpa using hl) (by simpa using hy) j x hx
  rw [dcs, List.getElem?_append_right (by rw [h9]; omega), h9, show (i + 1) * 6 + j - 6 = i * 6 + j by omega]
  exact this
 | [], _, _, _, _, hl, _, _, _, _ => by simp at hl
 | _ :: _, [], _, _, _, _, hy, _, _, _ => by simp at hy
def NewB (W0 w : World) (j : Nat) : Prop := New W0 w j /\ ∃ c t, w.heap[j]? = some (.cells c t (0, 0)) /\ okT t = false
def NewD (W0 w : World) (j : Nat) : Prop := New W0 w j /\ ∃ c t, w.heap[j]? = some (.cells c t (0, 0)) /\ t ≠ BK /\ okT t = false
theorem RC.dvd {W0 : World} {pm : Px} {g : Nat} {e : Ps} {W : World} {r : Rd} {q : Rv} (h : RC W0 pm g e W r q) (hl : r.defs.length <= 1000000) : DV W (NewD W0 W) q.dv r.defs := by
 have hold := h.old
 rcases h.drow.2 with ⟨e1, e2⟩ | ⟨g', cap, cur, e1, hb, hg, hnc, hcm, hcs, htake⟩
 ·exact ⟨none, 0, by rw [e1, e2], by omega, fun i d hi => by rw [List.eq_nil_of_length_eq_zero e2] at hi; simp at hi⟩
 ·refine ⟨_, _, e1, by omega, fun i d hi => ?_⟩
  have hil : i < r.defs.length := (List.getElem?_eq_some_iff.1 hi).1
  have hw := List.getElem?_eq_getElem (l := q.ws) (i := i) (by rw [h.dlen]; exact hil)
  refine ⟨g', 0, rfl, ⟨⟨by omega, (Array.getElem?_eq_some_iff.1 hg).1⟩, _, _, hg, by decide, by decide⟩, _, fun j x hx => ?_, (h.dnv i d _ hi hw).kept (fun _ _ => rfl) (fun b hb => ⟨⟨by have := h.cg b (by omega); omega, h.clt b (by omega)⟩, by obtain ⟨c, hc⟩ := h.ty b (by omega); exact ⟨c, ND, hc, by decide, by decide⟩⟩)⟩
  have hj := dcs_at r.defs q.ws i d _ hi hw j x hx
  rw [<- htake, List.getElem?_take] at hj
  split at hj
  ·simp only [World.cell?, hg]
   rw [Nat.zero_add]
   simpa using hj
  ·cases hj
theorem RC.dvs {W0 : World} {pm : Px} {g : Nat} {e : Ps} {W : World} {r : Rd} {q : Rv} (h : RC W0 pm g e W r q) (hl : r.defs.length <= 1000000) : DV W (NewB W0 W) q.dv r.defs := (h.dvd hl).kept (fun _ _ => rfl) (fun _ hj => ⟨hj.1, by obtain ⟨_, c, t, h1, _, h2⟩ := hj; exact ⟨c, t, h1, h2⟩⟩)
theorem nodup_inj {α : Type} {l : List α} (h : l.Nodup) (i j : Nat) (hi : i < l.length) (hj : j < l.length) (e : l[i] = l[j]) : i = j := by
 have hp := List.pairwise_iff_getElem.1 h
 rcases Nat.lt_trichotomy i j with h1 | h1 | h1
 ·exact absurd e (hp i j hi hj h1)
 ·exact h1
 ·exact absurd e.symm (hp j i hj hi h1)
theorem not_lt_dec (x y : Int) : (!decide (y < x)) = decide (x <= y) := by
 by_cases h : x <= y
 ·rw [decide_eq_true h, decide_eq_false (by omega)]; rfl
 ·rw [decide_eq_false h, decide_eq_true (by omega)]; rfl
theorem vu_en (l : List UInt8) : (l.map fun x => Value.int .u8 (x.toNat : Int)) = S.en Y.eb l := by
 induction l with
 | nil => rfl
 | cons a r ih => rw [S.en_cons, <- ih]; rfl
theorem RC.bsv {W0 : World} {pm : Px} {g : Nat} {e : Ps} {W : World} {r : Rd} {q : Rv} (h : RC W0 pm g e W r q) (i : Nat) (d : Int × List UInt8) (w : Value) (hd : r.banks[i]? = some d) (hw : q.zs[i]? = some w) : BS W (fun j => g < j /\ j < W.heap.size /\ ∃ c, W.heap[j]? = some (.cells c 5 (0, 0))) w d.2 := by
 have h1 := h.bdat i d w hd hw
 have h2 := h1
 rw [vu_en] at h2
 exact own_bs h2 fun b hb => ⟨(h1.lt b hb).1, (h1.lt b hb).2, own_tyD (n := 0) h1 b hb⟩
theorem sort_rc (W0 : World) (pm : Px) (g : Nat) (e : Ps) (W : World) (r : Rd) (q : Rv) (h : RC W0 pm g e W r q) (hl : r.defs.length <= 1000000) (hb : r.banks.length <= 1000000) (hnd : (r.banks.map (·.1)).Nodup) :
  Calls Tryz.prog 45 #[q.xv, .func (.func 46) #[] #[]] W fun en w' => en = .returned (.tuple #[]) /\ w'.heap[g]? = W.heap[g]? /\ (∀ x ∈ pm.x, w'.heap[x.1]? = W.heap[x.1]?) /\ DV w' (NewB W0 w') q.dv r.defs /\ BV w' (NewB W0 w') q.xv (r.banks.mergeSort fun a b => decide (a.1 <= b.1)) /\ Below W0.heap.size W0 w' := by
 have hold := h.old
 rcases h.brow.2 with ⟨e1, e2⟩ | ⟨g', cap, cur, e1, hbb, hg, hnc, hcm, hcs, htake⟩
 ·have e3 := List.eq_nil_of_length_eq_zero e2
  rw [e1, e3]
  refine (AnyF.slices_SortFunc_none Tryz.laysBk none 0 _ W).mono ?_
  rintro en w' ⟨rfl, rfl⟩
  exact ⟨rfl, rfl, fun _ _ => rfl, h.dvs hl, ⟨none, 0, by simp, fun i d hi => by simp at hi⟩, h.bel⟩
 ·by_cases hz : r.banks.length = 0
  ·have e3 := List.eq_nil_of_length_eq_zero hz
   rw [e1, e3]
   refine (AnyF.slices_SortFunc_none Tryz.laysBk _ cap _ W).mono ?_
   rintro en w' ⟨rfl, rfl⟩
   exact ⟨rfl, rfl, fun _ _ => rfl, h.dvs hl, ⟨_, cap, by simp; rfl, fun i d hi => by simp at hi⟩, h.bel⟩
  ·obtain ⟨m, hm⟩ : ∃ m, r.banks.length = m + 1 := ⟨r.banks.length - 1, by omega⟩
   have hbl : ∀ i : Fin (m + 1), i.val < r.banks.length := fun i => by have := i.isLt; omega
   have hzl : ∀ i : Fin (m + 1), i.val < q.zs.length := fun i => by rw [h.blen]; exact hbl i
   have hsl : ∀ i : Fin (m + 1), ∃ p n c, q.zs[i.val]'(hzl i) = .slice p n c := fun i => by
    obtain ⟨p, c, hv⟩ := row_val (h.bdat i.val _ _ (List.getElem?_eq_getElem (hbl i)) (List.getElem?_eq_getElem (hzl i)))
    exact ⟨p, _, c, hv⟩
   have hsl2 : ∃ (vp : Fin (m + 1) -> Option Addr) (vn vc : Fin (m + 1) -> Nat), ∀ i, q.zs[i.val]'(hzl i) = .slice (vp i) (vn i) (vc i) :=
    ⟨fun i => (hsl i).choose, fun i => (hsl i).choose_spec.choose, fun i => (hsl i).choose_spec.choose_spec.choose, fun i => (hsl i).choose_spec.choose_spec.choose_spec⟩
   obtain ⟨vp, vn, vc, hvv⟩ := hsl2
   have cellOf : ∀ (j : Nat) (x : Value), (bcs r.banks q.zs)[j]? = some x -> W.cell? ⟨g', j, none⟩ = some x := fun j x hj => by
    rw [<- htake, List.getElem?_take] at hj
    split at hj
    ·simp only [World.cell?, hg]
     simpa using hj
    ·cases hj
   have hH : ∀ i : Fin (m + 1), W.cell? ⟨g', i.val * 2, none⟩ = some (.int .i64 (r.banks[i.val]'(hbl i)).1) /\ W.cell? ⟨g', i.val * 2 + 1, none⟩ = some (.slice (vp i) (vn i) (vc i)) := fun i => by
    obtain ⟨c1, c2⟩ := bcs_at r.banks q.zs i.val _ _ (List.getElem?_eq_getElem (hbl i)) (List.getElem?_eq_getElem (hzl i))
    rw [hvv i] at c2
    exact ⟨cellOf _ _ c1, cellOf _ _ c2⟩
   have hinj : ∀ i j : Fin (m + 1), (r.banks[i.val]'(hbl i)).1 = (r.banks[j.val]'(hbl j)).1 -> i = j := fun i j hij => by
    have h1 : (r.banks.map (·.1))[i.val]'(by rw [List.length_map]; exact hbl i) = (r.banks.map (·.1))[j.val]'(by rw [List.length_map]; exact hbl j) := by
     rw [List.getElem_map, List.getElem_map]; exact hij
    exact Fin.ext (nodup_inj hnd _ _ _ _ h1)
   have hfr : ∀ j, W.frozen? ⟨g', j, none⟩ = false := fun j => by simp [World.frozen?, hg]
   have hs := sortB (fun i : Fin (m + 1) => (r.banks[i.val]'(hbl i)).1) vp vn vc hinj g' cap W hH hfr (Array.getElem?_eq_some_iff.1 hg).1 (by omega)
   rw [e1, hm]
   refine hs.mono ?_
   rintro en w' ⟨rfl, ho, ht, hou, hsz, hk, hty, hcell⟩
   have ndv : ∀ {k : Nat} {c : Array Value} {t : TypeId} {mm : Nat × Nat}, W.heap[k]? = some (.cells c t mm) -> t ≠ BK -> k ≠ g' := fun hk ht => ty_ne hk hg ht
   have hgg : g < g' := by omega
   have hord : (ordB fun i : Fin (m + 1) => (r.banks[i.val]'(hbl i)).1).map (fun i => r.banks[i.val]'(hbl i)) = r.banks.mergeSort fun a b => decide (a.1 <= b.1) := by
    unfold ordB
    rw [List.map_mergeSort (s := fun a b : Int × List UInt8 => decide (a.1 <= b.1)) (fun a _ b _ => by rw [ltB]; exact not_lt_dec _ _)]
    congr 1
    refine List.ext_getElem (by rw [List.length_map, List.length_finRange, hm]) fun i h1 h2 => ?_
    rw [List.getElem_map, List.getElem_finRange]
    rfl
   refine ⟨rfl, hk g h.lt (by omega), fun x hx => ?_, ?_, ?_, ⟨ho.trans h.bel.os, ht.trans h.bel.tape, hou.trans h.bel.output, Nat.le_trans h.bel.size hsz, fun k hkk => (hk k (by have := h.lt; omega) (by omega)).trans (h.bel.block k hkk)⟩⟩
   ·obtain ⟨x1, x2⟩ := h.ex x hx
    exact hk _ (Array.getElem?_eq_some_iff.1 x2).1 (ndv x2 (okT_ne x1).2.2.2.1)
   ·refine (h.dvd hl).kept (fun j hj => ?_) (fun j hj => ?_)
    ·obtain ⟨⟨_, j2⟩, c, t, hc, ht, _⟩ := hj
     exact hk j j2 (ndv hc ht)
    ·obtain ⟨⟨j1, j2⟩, c, t, hc, ht, h0⟩ := hj
     exact ⟨⟨j1, Nat.lt_of_lt_of_le j2 hsz⟩, c, t, (hk j j2 (ndv hc ht)).trans hc, h0⟩
   ·rw [<- hord]
    refine ⟨some ⟨g', 0, none⟩, cap, by rw [List.length_map, ordB_len], fun i d hi => ?_⟩
    rw [List.getElem?_map] at hi
    cases hx : (ordB fun i : Fin (m + 1) => (r.banks[i.val]'(hbl i)).1)[i]? with
    | none => rw [hx] at hi; cases hi
    | some x =>
     rw [hx] at hi
     obtain rfl := Option.some.inj hi
     obtain ⟨c0, c1⟩ := hcell i x hx
     obtain ⟨c9, hc9⟩ := hty _ _ _ hg
     refine ⟨g', 0, rfl, ⟨⟨by omega, Nat.lt_of_lt_of_le (Array.getElem?_eq_some_iff.1 hg).1 hsz⟩, c9, BK, hc9, by decide⟩, _, ⟨by rw [Nat.zero_add]; exact c0, by rw [Nat.zero_add]; exact c1⟩, ?_⟩
     have hbs := h.bsv x.val _ _ (List.getElem?_eq_getElem (hbl x)) (List.getElem?_eq_getElem (hzl x))
     rw [hvv x] at hbs
     refine hbs.kept (fun j hj => ?_) (fun j hj => ?_)
     ·obtain ⟨_, j2, c', hc'⟩ := hj
      exact hk j j2 (ndv hc' (by decide))
     ·obtain ⟨j1, j2, c', hc'⟩ := hj
      exact ⟨⟨by omega, by omega⟩, c', 5, (hk j j2 (ndv hc' (by decide))).trans hc', by decide⟩
end Go.Proofs.YtdnklgceghllaaaGreatDoor.D
