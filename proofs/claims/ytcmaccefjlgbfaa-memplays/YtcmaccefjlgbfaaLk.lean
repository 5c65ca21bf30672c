import Derived.Test.YtcmaccefjlgbfaaDuoP
import Derived.Test.YtcmaccefjlgbfaaXKit
import Derived.Test.YtcmaccefjlgbfaaRNew
import Derived.Test.YtcmaccefjlgbfaaApartKit
import Derived.Test.YtcmaccefjlgbfaaKeepMath
/-! MemPlays: what its walk wants. -/
namespace Go.Proofs.Ytcmaccefjlgbfaa
open Go.RowKit
open Go.Proofs
set_option linter.unusedVariables false
set_option linter.unusedSimpArgs false
theorem may_len : ∀ (bs : List (Int × List UInt8)) (last : Int), mayB last bs = true → ∀ t ∈ bs, t.2.length ≤ 16384
  | [], _, _, t, ht => by simp at ht
  | u :: r, last, h, t, ht => by
    rw [mayB] at h
    by_cases c : u.1 ≤ last ∨ 16 ≤ u.1 ∨ 16384 < u.2.length
    · rw [if_pos c] at h; cases h
    · rw [if_neg c] at h
      rcases List.mem_cons.1 ht with rfl | ht
      · omega
      · exact may_len r _ h t ht
theorem may_padB : ∀ (bs : List (Int × List UInt8)) (last : Int), mayB last bs = true → mayB last (padB bs) = true
  | [], _, _ => rfl
  | u :: r, last, h => by
    rw [mayB] at h
    by_cases c : u.1 ≤ last ∨ 16 ≤ u.1 ∨ 16384 < u.2.length
    · rw [if_pos c] at h; cases h
    · rw [if_neg c] at h
      have hp : (padN 16384 u.2).length = 16384 := padN_len _ _ (by omega)
      show mayB last ((u.1, padN 16384 u.2) :: padB r) = true
      rw [mayB, if_neg (by simp only [hp]; omega)]
      exact may_padB r _ h
theorem allF_padB (bs : List (Int × List UInt8)) (h : ∀ t ∈ bs, t.2.length ≤ 16384) : allF (padB bs) = true := by
  rw [allF, List.all_eq_true]
  intro t ht
  rw [padB, List.mem_map] at ht
  obtain ⟨u, hu, rfl⟩ := ht
  simp only [padN_len 16384 u.2 (h u hu), beq_self_eq_true]
theorem find_padB (n : Int) : ∀ bs : List (Int × List UInt8), (padB bs).find? (fun t => t.1 == n) = (bs.find? (fun t => t.1 == n)).map fun t => (t.1, padN 16384 t.2)
  | [] => rfl
  | u :: r => by
    show ((u.1, padN 16384 u.2) :: padB r).find? _ = _
    rw [List.find?_cons, List.find?_cons]
    cases u.1 == n with
    | true => rfl
    | false => exact find_padB n r
theorem nbk_padB (bs : List (Int × List UInt8)) (h : ∀ t ∈ bs, t.2.length ≤ 16384) : nbk bs = nbk (padB bs) := by
  funext k
  unfold nbk
  rw [find_padB, Option.map_map]
  cases hf : bs.find? (fun t => t.1 == (k : Int)) with
  | none => rfl
  | some t =>
    have hl := padN_len 16384 t.2 (h t (List.mem_of_find?_eq_some hf))
    simp only [Option.map_some, Function.comp, Option.some.injEq]
    show pad t.2 = pad (padN 16384 t.2)
    conv => rhs; rw [pad, hl, Nat.sub_self, List.replicate_zero, List.append_nil]
    rfl
theorem ms0_eq : ms0 = m0 := by
  have e : ∀ n, fl n [] 0 = List.replicate n 0 := fun n => by simp [fl]
  unfold ms0 m0
  rw [e, e]
theorem newR {W : World} {F : Nat → Prop} {b : Nat} {bs : List (Int × List UInt8)} (hm : mayB (-1) bs = true) (hw : Wf (mN bs)) (h : HasR W F b (padB bs) ms0) : IsR W F b (mN bs) := by
  have hd := may_len bs _ hm
  refine ⟨hw, ?_⟩
  rw [inO_all (padB bs) (may_padB bs _ hm) (allF_padB bs hd) (mN bs) (nbk_padB bs hd)]
  rw [ms0_eq] at h
  obtain ⟨u, gr, gc, gs, tv, h⟩ := h
  exact ⟨u, gr, gc, gs, tv, ⟨h.blk, h.banks, h.ram, h.scr, h.rl, h.sl, h.tones, h.nr, h.nc, h.rc, h.fb, h.fu, h.fg, h.fr, h.fc, h.ft⟩⟩
/-- The banks that were handed in are written over. -/
structure Ov (w w1 w5 wr : World) (u : Value) (bs : List (Int × List UInt8)) (gs : List (Nat × Nat)) : Prop where
  bel : Below w.heap.size w wr
  sz : wr.heap.size = w5.heap.size
  hi : ∀ k, w1.heap.size ≤ k → wr.heap[k]? = w5.heap[k]?
  row : wr.ownsRow w.heap.size 37 2 u bs.length (bcs bs gs)
  len : gs.length = bs.length
  lo : ∀ (i : Nat) (t : Int × List UInt8) (g : Nat × Nat), bs[i]? = some t → gs[i]? = some g → g.1 < w1.heap.size
  dat : ∀ (i : Nat) (t : Int × List UInt8) (g : Nat × Nat), bs[i]? = some t → gs[i]? = some g → ∃ xs, wr.ownsRow w.heap.size 5 1 (.slice (some ⟨g.1, 0, none⟩) (t.2.length + 1) g.2) (t.2.length + 1) xs
  nd : (gs.map Prod.fst).Nodup
theorem Ov.start {w w1 w5 : World} {u : Value} {bs : List (Int × List UInt8)} {gs : List (Nat × Nat)} (h : OB w1 w.heap.size u bs gs) (hb : Below w.heap.size w w1) (h5 : Below w1.heap.size w1 w5) : Ov w w1 w5 w5 u bs gs := by
  have h' := h.below h5
  refine ⟨hb.trans (h5.mono hb.size), rfl, fun _ _ => rfl, h'.row, h.len, fun i t g a c => ?_, fun i t g a c => ?_, h.nd⟩
  · exact ((h.dat i t g a c).lt g.1 rfl).2
  · have := h'.dat i t g a c
    unfold Row at this
    rw [List.length_append] at this
    exact ⟨_, this⟩
theorem Ov.store {w w1 w5 wr : World} {u : Value} {bs : List (Int × List UInt8)} {gs : List (Nat × Nat)} (h : Ov w w1 w5 wr u bs gs) (i : Nat) (t : Int × List UInt8) (g : Nat × Nat) (a : bs[i]? = some t) (c : gs[i]? = some g) (j : Nat) (v : Value) : Ov w w1 w5 (wr.setCell ⟨g.1, j, none⟩ v) u bs gs := by
  obtain ⟨xs, hx⟩ := h.dat i t g a c
  have hlo := h.lo i t g a c
  have ot : ∀ k, k ≠ g.1 → (wr.setCell ⟨g.1, j, none⟩ v).heap[k]? = wr.heap[k]? := fun k hk => heap_setCell_other wr ⟨g.1, j, none⟩ k v hk
  refine ⟨h.bel.setCell (p := ⟨g.1, j, none⟩) (hx.lt g.1 rfl).1 _, by rw [← h.sz]; simp, fun k hk => (ot k (by omega)).trans (h.hi k hk), own_kept h.row fun gb e _ => ot gb ?_, h.len, h.lo, fun i' t' g' a' c' => ?_, h.nd⟩
  · rintro rfl
    obtain ⟨x, ex⟩ := own_block h.row _ e
    obtain ⟨y, ey⟩ := own_block hx g.1 rfl
    rw [ex] at ey
    simp at ey
  · by_cases e : i' = i
    · subst e
      rw [a] at a'; rw [c] at c'
      cases a'; cases c'
      exact ⟨_, (hx.stored j v).1⟩
    · obtain ⟨ys, hy⟩ := h.dat i' t' g' a' c'
      refine ⟨ys, own_kept hy fun gb eb _ => ot gb ?_⟩
      have : gb = g'.1 := by simpa [Value.ownBlock] using eb.symm
      subst this
      intro hh
      have hi := (List.getElem?_eq_some_iff.1 c).1
      have hi' := (List.getElem?_eq_some_iff.1 c').1
      have e1 : (gs.map Prod.fst)[i]? = some g.1 := by rw [List.getElem?_map, c]; rfl
      have e2 : (gs.map Prod.fst)[i']? = some g.1 := by rw [List.getElem?_map, c', ← hh]; rfl
      have h1 := (List.getElem?_inj (by simpa using hi') h.nd).1 (e2.trans e1.symm)
      exact e h1
theorem Ov.at {w w1 w5 wr : World} {u : Value} {bs : List (Int × List UInt8)} {gs : List (Nat × Nat)} (h : Ov w w1 w5 wr u bs gs) (gu cu : Nat) (hu : u = .slice (some ⟨gu, 0, none⟩) bs.length cu) (i : Nat) (t : Int × List UInt8) (g : Nat × Nat) (a : bs[i]? = some t) (c : gs[i]? = some g) :
    wr.cell? ⟨gu, i * 2 + 1, none⟩ = some (.slice (some ⟨g.1, 0, none⟩) t.2.length g.2) := by
  have hr := h.row
  rw [hu] at hr
  have c2 := World.ownsRow.cells hr (g := gu) rfl _ _ (bcs_get bs gs i t g a c).2
  rw [Addr.add_lit, Nat.zero_add] at c2
  exact c2
theorem Ov.byte {w w1 w5 wr : World} {u : Value} {bs : List (Int × List UInt8)} {gs : List (Nat × Nat)} (h : Ov w w1 w5 wr u bs gs) (i : Nat) (t : Int × List UInt8) (g : Nat × Nat) (a : bs[i]? = some t) (c : gs[i]? = some g) (j : Nat) (hj : j < t.2.length) :
    ∃ old, wr.cell? ⟨g.1, j, none⟩ = some old ∧ wr.frozen? ⟨g.1, j, none⟩ = false := by
  obtain ⟨xs, hx⟩ := h.dat i t g a c
  have hxl : j < xs.length := by rw [hx.1]; omega
  have hcell := World.ownsRow.cells hx (g := g.1) rfl j _ (List.getElem?_eq_getElem hxl)
  rw [Addr.add_lit, Nat.zero_add] at hcell
  obtain ⟨cur, hcur⟩ := own_block hx g.1 rfl
  exact ⟨_, hcell, by simp [World.frozen?, hcur]⟩
/-- One step of a script. -/
structure Op7 where
  k : Int
  wh : Int
  at_ : Int
  x : Int
  y : Int
  c : Int
  n : Int
def ScS (W : World) (p : Option Addr) (ps : List Op7) : Prop := ∀ (i : Nat) t, ps[i]? = some t → (∃ b o, p = some ⟨b, o, none⟩ ∧ W.cell? ⟨b, o + i * 7, none⟩ = some (.int .i64 t.k) ∧ W.cell? ⟨b, o + i * 7 + 1, none⟩ = some (.int .i64 t.wh) ∧ W.cell? ⟨b, o + i * 7 + 2, none⟩ = some (.int .u16 t.at_) ∧ W.cell? ⟨b, o + i * 7 + 3, none⟩ = some (.int .u16 t.x) ∧ W.cell? ⟨b, o + i * 7 + 4, none⟩ = some (.int .u16 t.y) ∧ W.cell? ⟨b, o + i * 7 + 5, none⟩ = some (.int .u16 t.c) ∧ W.cell? ⟨b, o + i * 7 + 6, none⟩ = some (.int .i64 t.n)) ∧
  0 ≤ t.at_ ∧ t.at_ < 65536 ∧ 0 ≤ t.x ∧ t.x < 65536 ∧ 0 ≤ t.y ∧ t.y < 65536
/-- The pair that the law makes. -/
theorem pair_make {w1 w2 w3 w5 w6 w7 w8 : World} {B b0 b1 d0 d1 : Nat} {m : MS} (hB : B ≤ w1.heap.size) (h12 : Below w1.heap.size w1 w2) (h23 : Below w2.heap.size w2 w3) (h35 : Below w3.heap.size w3 w5)
    (a0 : HasM w2 (fun k => w1.heap.size ≤ k) b0 m) (r0 : IsR w3 (fun k => w2.heap.size ≤ k) d0 m) (hi : ∀ k, w1.heap.size ≤ k → w6.heap[k]? = w5.heap[k]?) (hz : w6.heap.size = w5.heap.size)
    (h67 : Below w6.heap.size w6 w7) (h78 : Below w7.heap.size w7 w8) (a1 : HasM w7 (fun k => w6.heap.size ≤ k) b1 m) (r1 : IsR w8 (fun k => w7.heap.size ≤ k) d1 m) (ht : m.tones.length = 0) :
    PlE B w8.heap.size 0 (w8.alloc (.cells #[ptr b0, ptr b1, ptr d0, ptr d1] 73)) (w8.alloc (.cells #[ptr b0, ptr b1, ptr d0, ptr d1] 73)) := by
  have h89 : Below w8.heap.size w8 (w8.alloc (.cells #[ptr b0, ptr b1, ptr d0, ptr d1] 73)) := (Below.refl _ _).alloc (Nat.le_refl _) _
  have s12 := h12.size
  have s23 := h23.size
  have s35 := h35.size
  have s67 := h67.size
  have s78 := h78.size
  have hblk : (w8.alloc (.cells #[ptr b0, ptr b1, ptr d0, ptr d1] 73)).heap[w8.heap.size]? = some (.cells [ptr b0, ptr b1, ptr d0, ptr d1].toArray 73 (0, 0)) := heap_alloc_new w8 _
  generalize w8.alloc (.cells #[ptr b0, ptr b1, ptr d0, ptr d1] 73) = w9 at *
  have k9 : ∀ k, k < w6.heap.size → w9.heap[k]? = w6.heap[k]? := fun k hk => (h89.block k (by omega)).trans ((h78.block k (by omega)).trans (h67.block k hk))
  have A0 : HasM w9 (fun k => w1.heap.size ≤ k ∧ k < w2.heap.size) b0 m := (a0.mono (G := fun k => w1.heap.size ≤ k ∧ k < w2.heap.size) fun i hi f => ⟨f, hi⟩).kept fun i hi' f => (k9 i (by omega)).trans ((hi i f.1).trans ((h35.block i (by omega)).trans (h23.block i (by omega))))
  have R0 : IsR w9 (fun k => w2.heap.size ≤ k ∧ k < w3.heap.size) d0 m := (r0.mono (G := fun k => w2.heap.size ≤ k ∧ k < w3.heap.size) fun i hi f => ⟨f, hi⟩).kept fun i hi' f => (k9 i (by omega)).trans ((hi i (by omega)).trans (h35.block i (by omega)))
  have A1 : HasM w9 (fun k => w6.heap.size ≤ k ∧ k < w7.heap.size) b1 m := (a1.mono (G := fun k => w6.heap.size ≤ k ∧ k < w7.heap.size) fun i hi f => ⟨f, hi⟩).kept fun i hi' f => (h89.block i (by omega)).trans (h78.block i hi')
  have R1 : IsR w9 (fun k => w7.heap.size ≤ k ∧ k < w8.heap.size) d1 m := (r1.mono (G := fun k => w7.heap.size ≤ k ∧ k < w8.heap.size) fun i hi f => ⟨f, hi⟩).kept fun i hi' f => h89.block i hi'
  exact ⟨⟨_, _, _, _, Duo.make A0 R0 A1 R1 hB s12 s23 (by omega) s67 s78 (Nat.le_refl _) hblk, fun j _ => by simp only [ht]; exact Nat.le_refl _⟩, Below.refl _ _⟩
end Go.Proofs.Ytcmaccefjlgbfaa
