import Derived.Test.YtgponcjjnjpfkaaGreatMFull
import Derived.Test.YtgponcjjnjpfkaaGreatMImageKit
import Derived.Test.YtgponcjjnjpfkaaGreatMOwn
import Derived.BigQuiet
/-! The reference's memory: bank, Load. -/
namespace Go.Proofs.YtgponcjjnjpfkaaGreat.M
open Go.RowKit
open Go.Proofs
set_option linter.unusedVariables false
set_option linter.unusedSimpArgs false
theorem RB.mem {W : World} {B : Nat} {v : Value} {bs : List (Int × List UInt8)} {gs : List (Nat × Nat)} (h : RB W B v bs gs) (y : Nat × Nat) (hy : y ∈ gs) : ∃ l, B5 W y.1 l ∧ B ≤ y.1 := by
  obtain ⟨i, hi, e⟩ := List.mem_iff_getElem.1 hy
  have hb' : i < bs.length := by rw [← h.len]; exact hi
  have := h.dat i bs[i] y (List.getElem?_eq_getElem hb') (by rw [List.getElem?_eq_getElem hi, e])
  exact ⟨_, this.1, this.2.2.2⟩
theorem MemR.kept {W W' : World} {F : Nat → Prop} {b : Nat} {bs : List (Int × List UInt8)} {m : MS} {u : Value} {gr gc : Nat} {gs : List (Nat × Nat)} {tv : Value} (h : MemR W F b bs m u gr gc gs tv) (k : ∀ i, i < W.heap.size → F i → W'.heap[i]? = W.heap[i]?) : MemR W' F b bs m u gr gc gs tv :=
  { h with
    blk := (k _ (lt_of h.blk) h.fb).trans h.blk
    banks := ⟨h.banks.len, own_kept h.banks.row fun g e hg => k g hg (h.fu g e), fun i t g a c => by
      obtain ⟨x1, x2, x3, x4⟩ := h.banks.dat i t g a c
      exact ⟨(k _ (lt_of x1) (h.fg g (List.mem_of_getElem? c))).trans x1, x2, x3, x4⟩, h.banks.nd⟩
    ram := (k _ (lt_of h.ram) h.fr).trans h.ram
    scr := (k _ (lt_of h.scr) h.fc).trans h.scr
    tones := own_kept h.tones fun g e hg => k g hg (h.ft g e) }
theorem MemR.mono {W : World} {F G : Nat → Prop} {b : Nat} {bs : List (Int × List UInt8)} {m : MS} {u : Value} {gr gc : Nat} {gs : List (Nat × Nat)} {tv : Value} (h : MemR W F b bs m u gr gc gs tv) (k : ∀ i, i < W.heap.size → F i → G i) : MemR W G b bs m u gr gc gs tv :=
  { h with
    fb := k _ (lt_of h.blk) h.fb
    fu := fun g e => k _ (h.banks.row.lt g e).2 (h.fu g e)
    fg := fun y hy => by obtain ⟨l, e, _⟩ := h.banks.mem y hy; exact k _ (lt_of e) (h.fg y hy)
    fr := k _ (lt_of h.ram) h.fr
    fc := k _ (lt_of h.scr) h.fc
    ft := fun g e => k _ (h.tones.lt g e).2 (h.ft g e) }
/-- The reference's memory and the state that it stands for. -/
def IsR (W : World) (F : Nat → Prop) (b : Nat) (m : MS) : Prop := Wf m ∧ HasR W F b (inO m 16) m
theorem IsR.kept {W W' : World} {F : Nat → Prop} {b : Nat} {m : MS} (h : IsR W F b m) (k : ∀ i, i < W.heap.size → F i → W'.heap[i]? = W.heap[i]?) : IsR W' F b m := by
  obtain ⟨hw, u, gr, gc, gs, tv, h⟩ := h; exact ⟨hw, u, gr, gc, gs, tv, h.kept k⟩
theorem IsR.mono {W : World} {F G : Nat → Prop} {b : Nat} {m : MS} (h : IsR W F b m) (k : ∀ i, i < W.heap.size → F i → G i) : IsR W G b m := by
  obtain ⟨hw, u, gr, gc, gs, tv, h⟩ := h; exact ⟨hw, u, gr, gc, gs, tv, h.mono k⟩
theorem IsR.below {W W' : World} {F : Nat → Prop} {b : Nat} {m : MS} (h : IsR W F b m) (k : Below W.heap.size W W') : IsR W' F b m := h.kept fun i hi _ => k.block i hi
/-- Where a bank stands in the list. -/
theorem inO_mem (m : MS) (n : Nat) (l : List UInt8) : ∀ k : Nat, (((n : Int), l) ∈ inO m k ↔ n < k ∧ m.banks n = some l)
  | 0 => by simp [inO]
  | k + 1 => by
    have ih := inO_mem m n l k
    cases hb : m.banks k with
    | none =>
      rw [inO_none m k hb, ih]
      constructor
      · rintro ⟨a, c⟩; exact ⟨by omega, c⟩
      · rintro ⟨a, c⟩
        refine ⟨?_, c⟩
        by_cases e : n = k
        · subst e; rw [hb] at c; cases c
        · omega
    | some x =>
      rw [inO_some m k x hb, List.mem_append, ih]
      constructor
      · rintro (⟨a, c⟩ | h)
        · exact ⟨by omega, c⟩
        · simp at h; obtain ⟨e, rfl⟩ := h; have : n = k := by omega
          subst this; exact ⟨by omega, hb⟩
      · rintro ⟨a, c⟩
        by_cases e : n = k
        · subst e; rw [hb] at c; cases c; right; simp
        · left; exact ⟨by omega, c⟩
theorem inO_fst (m : MS) (k : Nat) (t : Int × List UInt8) (h : t ∈ inO m k) : ∃ n : Nat, t.1 = (n : Int) := by
  simp only [inO, List.mem_filterMap] at h
  obtain ⟨n, _, e⟩ := h
  cases hb : m.banks n with
  | none => rw [hb] at e; simp at e
  | some x => rw [hb] at e; simp at e; exact ⟨n, by rw [← e]⟩
set_option maxHeartbeats 2000000
set_option maxRecDepth 100000
end Go.Proofs.YtgponcjjnjpfkaaGreat.M
/-! The reference's memory: what a write does. -/
namespace Go.Proofs.YtgponcjjnjpfkaaGreat.M
open Go.RowKit
open Go.Proofs
set_option linter.unusedVariables false
set_option linter.unusedSimpArgs false
section
variable {W : World} {F : Nat → Prop} {b : Nat} {bs : List (Int × List UInt8)} {m : MS} {u : Value} {gr gc : Nat} {gs : List (Nat × Nat)} {tv : Value}
theorem MemR.nu (h : MemR W F b bs m u gr gc gs tv) (g : Nat) (e : u.ownBlock = some g) : g ≠ b := by
  rintro rfl; obtain ⟨cur, e2⟩ := own_block h.banks.row g e; have := h.blk; rw [e2] at this; simp at this
theorem MemR.nt (h : MemR W F b bs m u gr gc gs tv) (g : Nat) (e : tv.ownBlock = some g) : g ≠ b := by
  rintro rfl; obtain ⟨cur, e2⟩ := own_block h.tones g e; have := h.blk; rw [e2] at this; simp at this
theorem MemR.n5 (h : MemR W F b bs m u gr gc gs tv) (g : Nat) (l : List UInt8) (e : B5 W g l) : g ≠ b ∧ u.ownBlock ≠ some g ∧ tv.ownBlock ≠ some g := by
  refine ⟨?_, ?_, ?_⟩
  · rintro rfl; have := h.blk; rw [e] at this; simp at this
  · intro c; obtain ⟨cur, e2⟩ := own_block h.banks.row g c; unfold B5 at e; rw [e2] at e; simp at e
  · intro c; obtain ⟨cur, e2⟩ := own_block h.tones g c; unfold B5 at e; rw [e2] at e; simp at e
/-- A register is written. -/
theorem MemR.reg (h : MemR W F b bs m u gr gc gs tv) (i : Nat) (v : Value) (m' : MS) (he : ∀ R S : Value, (rcells u R S m tv).set i v = rcells u R S m' tv) (e1 : m'.ram = m.ram) (e2 : m'.scr = m.scr) (e4 : m'.tones = m.tones) : MemR (W.setCell ⟨b, i, none⟩ v) F b bs m' u gr gc gs tv := by
  have k : ∀ j, j ≠ b → (W.setCell ⟨b, i, none⟩ v).heap[j]? = W.heap[j]? := fun j hj => setCell_other _ _ _ _ _ hj
  refine ⟨by rw [setCell_heap W b i _ 130 v h.blk, he], ⟨h.banks.len, own_kept h.banks.row fun g e _ => k g (h.nu g e), fun j t g a c => ?_, h.banks.nd⟩, ?_, ?_, by rw [e1]; exact h.rl, by rw [e2]; exact h.sl, by rw [e4]; exact own_kept h.tones fun g e _ => k g (h.nt g e), h.nr, h.nc, h.rc, h.fb, h.fu, h.fg, h.fr, h.fc, h.ft⟩
  · obtain ⟨x1, x2, x3, x4⟩ := h.banks.dat j t g a c
    exact ⟨(k _ (h.n5 _ _ x1).1).trans x1, x2, x3, x4⟩
  · rw [e1]; exact (k _ (h.n5 _ _ h.ram).1).trans h.ram
  · rw [e2]; exact (k _ (h.n5 _ _ h.scr).1).trans h.scr
theorem MemR.ramS (h : MemR W F b bs m u gr gc gs tv) (i : Nat) (x : UInt8) : MemR (W.setCell ⟨gr, i, none⟩ (.int .u8 (bt x))) F b bs { m with ram := m.ram.set i x } u gr gc gs tv := by
  have k : ∀ j, j ≠ gr → (W.setCell ⟨gr, i, none⟩ (.int .u8 (bt x))).heap[j]? = W.heap[j]? := fun j hj => setCell_other _ _ _ _ _ hj
  obtain ⟨n1, n2, n3⟩ := h.n5 _ _ h.ram
  refine ⟨(k _ n1.symm).trans h.blk, ⟨h.banks.len, own_kept h.banks.row fun g e _ => k g (fun c => n2 (c ▸ e)), fun j t g a c => ?_, h.banks.nd⟩, ?_, (k _ h.rc.symm).trans h.scr, by simp [h.rl], h.sl, own_kept h.tones fun g e _ => k g (fun c => n3 (c ▸ e)), h.nr, h.nc, h.rc, h.fb, h.fu, h.fg, h.fr, h.fc, h.ft⟩
  · obtain ⟨x1, x2, x3, x4⟩ := h.banks.dat j t g a c
    exact ⟨(k _ (h.nr g (List.mem_of_getElem? c))).trans x1, x2, x3, x4⟩
  · unfold B5; rw [← bv_set]; exact setCell_heap W _ _ _ 5 _ h.ram
theorem MemR.scrS (h : MemR W F b bs m u gr gc gs tv) (i : Nat) (x : UInt8) : MemR (W.setCell ⟨gc, i, none⟩ (.int .u8 (bt x))) F b bs { m with scr := m.scr.set i x } u gr gc gs tv := by
  have k : ∀ j, j ≠ gc → (W.setCell ⟨gc, i, none⟩ (.int .u8 (bt x))).heap[j]? = W.heap[j]? := fun j hj => setCell_other _ _ _ _ _ hj
  obtain ⟨n1, n2, n3⟩ := h.n5 _ _ h.scr
  refine ⟨(k _ n1.symm).trans h.blk, ⟨h.banks.len, own_kept h.banks.row fun g e _ => k g (fun c => n2 (c ▸ e)), fun j t g a c => ?_, h.banks.nd⟩, (k _ h.rc).trans h.ram, ?_, h.rl, by simp [h.sl], own_kept h.tones fun g e _ => k g (fun c => n3 (c ▸ e)), h.nr, h.nc, h.rc, h.fb, h.fu, h.fg, h.fr, h.fc, h.ft⟩
  · obtain ⟨x1, x2, x3, x4⟩ := h.banks.dat j t g a c
    exact ⟨(k _ (h.nc g (List.mem_of_getElem? c))).trans x1, x2, x3, x4⟩
  · unfold B5; rw [← bv_set]; exact setCell_heap W _ _ _ 5 _ h.scr
/-- One bank's bytes are others. -/
def setB (bs : List (Int × List UInt8)) (n : Int) (l : List UInt8) : List (Int × List UInt8) := bs.map fun t => if t.1 = n then (t.1, l) else t
theorem bcs_setB (n : Int) (l : List UInt8) : ∀ (bs : List (Int × List UInt8)) (gs : List (Nat × Nat)), (∀ t ∈ bs, t.1 = n → t.2.length = l.length) → bcs (setB bs n l) gs = bcs bs gs
  | [], gs, _ => by cases gs <;> rfl
  | t :: bs, [], _ => rfl
  | t :: bs, g :: gs, h => by
    have ih := bcs_setB n l bs gs fun x hx => h x (List.mem_cons_of_mem _ hx)
    simp only [setB, List.map_cons, bcs] at ih ⊢
    rw [ih]
    congr 1
    split
    · next c => simp only [bc, h t (by simp) c]
    · rfl
theorem MemR.bankS (h : MemR W F b bs m u gr gc gs tv) (hd : (bs.map Prod.fst).Nodup) (k : Nat) (t : Int × List UInt8) (g : Nat × Nat) (ht : bs[k]? = some t) (hg : gs[k]? = some g) (i : Nat) (x : UInt8) (m' : MS) (e1 : m'.ram = m.ram) (e2 : m'.scr = m.scr) (e4 : m'.tones = m.tones) (e5 : ∀ R S, rcells u R S m' tv = rcells u R S m tv) :
    MemR (W.setCell ⟨g.1, i, none⟩ (.int .u8 (bt x))) F b (setB bs t.1 (t.2.set i x)) m' u gr gc gs tv := by
  have kk : ∀ j, j ≠ g.1 → (W.setCell ⟨g.1, i, none⟩ (.int .u8 (bt x))).heap[j]? = W.heap[j]? := fun j hj => setCell_other _ _ _ _ _ hj
  obtain ⟨x1, x2, x3, x4⟩ := h.banks.dat k t g ht hg
  obtain ⟨n1, n2, n3⟩ := h.n5 _ _ x1
  have hgm := List.mem_of_getElem? hg
  have hlen : (setB bs t.1 (t.2.set i x)).length = bs.length := by simp [setB]
  have hsame : ∀ y ∈ bs, y.1 = t.1 → y.2.length = (t.2.set i x).length := by
    intro y hy e
    obtain ⟨j, hj, ej⟩ := List.mem_iff_getElem.1 hy
    have hjg : j < gs.length := by rw [h.banks.len]; exact hj
    have := (h.banks.dat j y gs[j] (by rw [List.getElem?_eq_getElem hj, ej]) (List.getElem?_eq_getElem hjg)).2.2.1
    simp [x3, this]
  refine ⟨by rw [e5]; exact (kk _ n1.symm).trans h.blk, ⟨by rw [hlen]; exact h.banks.len, ?_, fun j y z a c => ?_, h.banks.nd⟩, by rw [e1]; exact (kk _ (h.nr g hgm).symm).trans h.ram, by rw [e2]; exact (kk _ (h.nc g hgm).symm).trans h.scr, by rw [e1]; exact h.rl, by rw [e2]; exact h.sl, by rw [e4]; exact own_kept h.tones fun q e _ => kk q (fun c => n3 (c ▸ e)), h.nr, h.nc, h.rc, h.fb, h.fu, h.fg, h.fr, h.fc, h.ft⟩
  · rw [hlen, bcs_setB _ _ bs gs hsame]; exact own_kept h.banks.row fun q e _ => kk q (fun c => n2 (c ▸ e))
  · simp only [setB, List.getElem?_map, Option.map_eq_some_iff] at a
    obtain ⟨y0, a0, ay⟩ := a
    obtain ⟨w1, w2, w3, w4⟩ := h.banks.dat j y0 z a0 c
    by_cases ej : j = k
    · subst ej
      rw [ht] at a0; cases a0
      rw [hg] at c; cases c
      rw [if_pos rfl] at ay
      subst ay
      refine ⟨?_, x2, by simp [x3], x4⟩
      unfold B5; rw [← bv_set]; exact setCell_heap W _ _ _ 5 _ x1
    · have hne : y0.1 ≠ t.1 := by
        intro e
        have a1 : (bs.map Prod.fst)[j]? = some t.1 := by rw [List.getElem?_map, a0]; simp [e]
        have a2 : (bs.map Prod.fst)[k]? = some t.1 := by rw [List.getElem?_map, ht]; rfl
        obtain ⟨l1, q1⟩ := List.getElem?_eq_some_iff.1 a1
        obtain ⟨l2, q2⟩ := List.getElem?_eq_some_iff.1 a2
        exact ej ((List.getElem_inj (h₀ := l1) (h₁ := l2) hd).1 (by rw [q1, q2]))
      rw [if_neg hne] at ay
      subst ay
      have hzg : z.1 ≠ g.1 := by
        intro e
        have a1 : (gs.map Prod.fst)[j]? = some g.1 := by rw [List.getElem?_map, c]; simp [e]
        have a2 : (gs.map Prod.fst)[k]? = some g.1 := by rw [List.getElem?_map, hg]; rfl
        obtain ⟨l1, q1⟩ := List.getElem?_eq_some_iff.1 a1
        obtain ⟨l2, q2⟩ := List.getElem?_eq_some_iff.1 a2
        exact ej ((List.getElem_inj (h₀ := l1) (h₁ := l2) h.banks.nd).1 (by rw [q1, q2]))
      exact ⟨(kk _ hzg).trans w1, w2, w3, w4⟩
end
theorem inO_keys (m : MS) : ∀ k, ((inO m k).map Prod.fst).Nodup ∧ ∀ t ∈ inO m k, t.1 < (k : Int)
  | 0 => by simp [inO]
  | k + 1 => by
    obtain ⟨h1, h2⟩ := inO_keys m k
    cases hb : m.banks k with
    | none => rw [inO_none m k hb]; exact ⟨h1, fun t ht => by have := h2 t ht; omega⟩
    | some l =>
      rw [inO_some m k l hb]
      refine ⟨?_, ?_⟩
      · rw [List.map_append, List.nodup_append]
        refine ⟨h1, by simp, ?_⟩
        intro a ha c hc e
        simp at hc
        simp only [List.mem_map] at ha
        obtain ⟨y, hy, rfl⟩ := ha
        have := h2 y hy
        omega
      · intro t ht
        rcases List.mem_append.1 ht with ht | ht
        · have := h2 t ht; omega
        · simp at ht; subst ht; simp; omega
theorem inO_setB (m : MS) (n : Nat) (l0 l : List UInt8) (hb : m.banks n = some l0) : ∀ k, inO { m with banks := upd m.banks n l } k = setB (inO m k) (n : Int) l
  | 0 => by simp [inO, setB]
  | k + 1 => by
    have ih := inO_setB m n l0 l hb k
    by_cases e : k = n
    · subst e
      have h1 : ({ m with banks := upd m.banks k l } : MS).banks k = some l := by simp [upd]
      rw [inO_some _ k l h1, inO_some m k l0 hb, ih]
      simp [setB]
    · cases hk : m.banks k with
      | none =>
        have h1 : ({ m with banks := upd m.banks n l } : MS).banks k = none := by simp [upd, e, hk]
        rw [inO_none _ k h1, inO_none m k hk, ih]
      | some x =>
        have h1 : ({ m with banks := upd m.banks n l } : MS).banks k = some x := by simp [upd, e, hk]
        rw [inO_some _ k x h1, inO_some m k x hk, ih]
        have : ((k : Int)) ≠ (n : Int) := by omega
        simp [setB, this]
end Go.Proofs.YtgponcjjnjpfkaaGreat.M
