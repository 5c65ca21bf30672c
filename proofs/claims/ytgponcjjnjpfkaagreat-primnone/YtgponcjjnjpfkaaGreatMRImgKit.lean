import Derived.Test.YtgponcjjnjpfkaaGreatMRMem
import Derived.Test.YtgponcjjnjpfkaaGreatMRCopy
import Derived.Deep.RegionHeld
/-! The reference: Copy and Image of a memory. -/
namespace Go.Proofs.YtgponcjjnjpfkaaGreat.M
open Go.RowKit
open Go.Proofs
set_option linter.unusedVariables false
set_option linter.unusedSimpArgs false
theorem RB.ex {W : World} {B : Nat} {v : Value} {bs : List (Int × List UInt8)} {gs : List (Nat × Nat)} (h : RB W B v bs gs) : ∃ p c, v = .slice p bs.length c ∧ BnS W p bs := by
  rcases h.row.2 with ⟨rfl, e⟩ | ⟨g, cap, cur, rfl, _⟩
  · have : bs = [] := List.eq_nil_of_length_eq_zero e
    subst this
    exact ⟨none, 0, rfl, fun i t ht => by simp at ht⟩
  · refine ⟨_, cap, rfl, fun i t ht => ?_⟩
    have hi := (List.getElem?_eq_some_iff.1 ht).1
    have hig : i < gs.length := by rw [h.len]; exact hi
    have hg : gs[i]? = some gs[i] := List.getElem?_eq_getElem hig
    obtain ⟨k1, k2⟩ := bcs_get bs gs i t _ ht hg
    have c1 := World.ownsRow.cells h.row (g := g) rfl _ _ k1
    have c2 := World.ownsRow.cells h.row (g := g) rfl _ _ k2
    rw [Addr.add_lit] at c1 c2
    obtain ⟨x1, x2, x3, _⟩ := h.dat i t _ ht hg
    rw [x2, x3] at c2
    refine ⟨g, 0, _, rfl, c1, c2, B5.sl x1 x3, by rw [x3]; unfold room; omega⟩
theorem MemR.rv {W : World} {F : Nat → Prop} {b : Nat} {bs : List (Int × List UInt8)} {m : MS} {u : Value} {gr gc : Nat} {gs : List (Nat × Nat)} {tv : Value} (h : MemR W F b bs m u gr gc gs tv) (hl : bs.length ≤ 16) (ht : m.tones.length ≤ 1000000) :
    ∃ pb c, u = .slice pb bs.length c ∧ RV W b bs m pb c (.slice (some ⟨gr, 0, none⟩) 16384 16384) (.slice (some ⟨gc, 0, none⟩) 3072 3072) tv := by
  obtain ⟨p, c, rfl, hb⟩ := h.banks.ex
  refine ⟨p, c, rfl, h.blk, hb, B5.sl h.ram h.rl, B5.sl h.scr h.sl, TRow.cs h.tones, by rw [h.rl]; omega, by rw [h.sl]; omega, by unfold room; omega, fun t ht => ?_, ht⟩
  obtain ⟨i, hi, e⟩ := List.mem_iff_getElem.1 ht
  have hg : i < gs.length := by rw [h.banks.len]; exact hi
  have := (h.banks.dat i t _ (by rw [List.getElem?_eq_getElem hi, e]) (List.getElem?_eq_getElem hg)).2.2.1
  omega
theorem padB_full (bs : List (Int × List UInt8)) (h : ∀ t ∈ bs, t.2.length = 16384) : padB bs = bs := by
  unfold padB
  conv => rhs; rw [← List.map_id bs]
  apply List.map_congr_left
  intro t ht
  rw [padN_full _ _ (h t ht)]; rfl
theorem inO_full (m : MS) (hw : Wf m) (k : Nat) : ∀ t ∈ inO m k, t.2.length = 16384 := by
  intro t ht
  obtain ⟨n, hn⟩ := inO_fst m k t ht
  have : ((n : Int), t.2) ∈ inO m k := by rw [← hn]; exact ht
  exact (hw.bk _ _ ((inO_mem m n t.2 k).1 this).2).2
theorem rcopy_is (b : Nat) (w : World) {F : Nat → Prop} {m : MS} (hm : IsR w F b m) (ht : m.tones.length ≤ 1000000) :
    Calls Tryz.prog 83 #[.pointer (some ⟨b, 0, none⟩)] w fun e w' => ∃ b', e = .returned (.pointer (some ⟨b', 0, none⟩)) ∧ IsR w' (fun k => w.heap.size ≤ k) b' m ∧ Below w.heap.size w w' := by
  obtain ⟨hw, u, gr, gc, gs, tv, h⟩ := hm
  obtain ⟨p, c, rfl, hv⟩ := h.rv (inO_len m 16) ht
  refine (rcopy_any b _ m p c _ _ _ w hv).mono ?_
  rintro e w' ⟨b', rfl, hR, hB⟩
  rw [padB_full _ (inO_full m hw 16), padN_full _ _ hw.ram, padN_full _ _ hw.scr] at hR
  exact ⟨b', rfl, ⟨hw, hR⟩, hB⟩
/-- What the reference's image shows. -/
structure RIm (W : World) (pb : Option Addr) (gr gc : Nat) (m : MS) : Prop where
  bn : BnS W pb (inO m 16)
  ram : Sl W (.slice (some ⟨gr, 0, none⟩) 16384 16384) m.ram
  scr : Sl W (.slice (some ⟨gc, 0, none⟩) 3072 3072) m.scr
theorem RIm.below {W W' : World} {pb : Option Addr} {gr gc : Nat} {m : MS} (h : RIm W pb gr gc m) (k : Below W.heap.size W W') : RIm W' pb gr gc m := ⟨h.bn.below k, h.ram.below k, h.scr.below k⟩
theorem rimage_end (w w1 w2 : World) {b' : Nat} {m : MS} (hm : IsR w2 (fun k => w1.heap.size ≤ k) b' m) (hb1 : Below w.heap.size w w1) (hz1 : w1.heap.size = w.heap.size + 1) (hb2 : Below w1.heap.size w1 w2)
    (hr1 : w1.heap[w.heap.size]? = some (.cells [.slice none 0 0, .slice none 0 0, .slice none 0 0, .int .u8 0, .int .u8 0, .int .u16 0, .int .u8 0, .int .u16 0].toArray 125 (0, 0))) :
    ∃ pb cb gr gc tv, w2.heap[b']? = some (.cells (rcells (.slice pb (inO m 16).length cb) (.slice (some ⟨gr, 0, none⟩) 16384 16384) (.slice (some ⟨gc, 0, none⟩) 3072 3072) m tv).toArray 130 (0, 0)) ∧
      b' ≠ w.heap.size ∧ w2.heap[w.heap.size]? = some (.cells [.slice none 0 0, .slice none 0 0, .slice none 0 0, .int .u8 0, .int .u8 0, .int .u16 0, .int .u8 0, .int .u16 0].toArray 125 (0, 0)) ∧
      (st8 w2 w.heap.size (.slice pb (inO m 16).length cb) (.slice (some ⟨gr, 0, none⟩) 16384 16384) (.slice (some ⟨gc, 0, none⟩) 3072 3072) m).heap[w.heap.size]? = some (.cells (imgC (.slice pb (inO m 16).length cb) (.slice (some ⟨gr, 0, none⟩) 16384 16384) (.slice (some ⟨gc, 0, none⟩) 3072 3072) m).toArray 125 (0, 0)) ∧
      RIm (st8 w2 w.heap.size (.slice pb (inO m 16).length cb) (.slice (some ⟨gr, 0, none⟩) 16384 16384) (.slice (some ⟨gc, 0, none⟩) 3072 3072) m) pb gr gc m ∧
      Below w.heap.size w (st8 w2 w.heap.size (.slice pb (inO m 16).length cb) (.slice (some ⟨gr, 0, none⟩) 16384 16384) (.slice (some ⟨gc, 0, none⟩) 3072 3072) m) := by
  obtain ⟨hw, u, gr, gc, gs, tv, h⟩ := hm
  obtain ⟨p, c, rfl, _⟩ := h.banks.ex
  have z2 := hb2.size
  have hr2 := (hb2.block w.heap.size (by omega)).trans hr1
  have h9 := h.kept (W' := st8 w2 w.heap.size (.slice p (inO m 16).length c) (.slice (some ⟨gr, 0, none⟩) 16384 16384) (.slice (some ⟨gc, 0, none⟩) 3072 3072) m) fun i _ hi => st8_other w2 w.heap.size i _ _ _ m (by omega)
  obtain ⟨p2, c2, e2, hb⟩ := h9.banks.ex
  cases e2
  refine ⟨p, c, gr, gc, tv, h.blk, by have : w1.heap.size ≤ b' := h.fb; omega, hr2, st8_heap w2 _ _ _ _ m _ 125 rfl hr2, ⟨hb, B5.sl h9.ram h9.rl, B5.sl h9.scr h9.sl⟩, st8_below w2 _ _ _ _ m (hb1.trans (hb2.mono (by omega))) (by omega)⟩
end Go.Proofs.YtgponcjjnjpfkaaGreat.M
