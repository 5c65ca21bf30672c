import Derived.Test.YtgponcjjnjpfkabGreatG6
import Derived.Deep.RegionHeldLaw
import Derived.Deep.RegionHeld
import Derived.Deep.DeepCutAuto
import Derived.Laws.Rows
import Derived.Laws.StructEq
import Derived.Deep.RegionHeld3
import Derived.Laws.ResultCell
/-! The reference's memory: what a write does. -/
namespace Go.Proofs.YtgponcjjnjpfkabGreat.M
open Go.RowKit
open Go.Proofs
set_option linter.unusedVariables false
set_option linter.unusedSimpArgs false
section
variable {W : World} {F : Nat → Prop} {b : Nat} {bs : List (Int × List UInt8)} {m : MS} {u : Value} {gr gc : Nat} {gs : List (Nat × Nat)} {tv : Value}
theorem MemR.nu (h : MemR W F b bs m u gr gc gs tv) (g : Nat) (e : u.ownBlock = some g) : g ≠ b := by
  rintro rfl; obtain ⟨cur, e2⟩ := own_block h.banks.row g e; have := h.blk; rw [e2] at this; simp at this
theorem MemR.nt (h : MemR W F b bs m u gr gc gs tv) (g : Nat) (e : tv.ownBlock = some g) : g ≠ b := by
  rintro rfl; obtain ⟨cur, e2⟩ := own_block h.tones g e; have := h.blk; rw [e2] at this; simp at this
theorem MemR.n5 (h : MemR W F b bs m u gr gc gs tv) (g : Nat) (l : List UInt8) (e : B5 W g l) : g ≠ b ∧ u.ownBlock ≠ some g ∧ tv.ownBlock ≠ some g := by
  refine ⟨?_, ?_, ?_⟩
  · rintro rfl; have := h.blk; rw [e] at this; simp at this
  · intro c; obtain ⟨cur, e2⟩ := own_block h.banks.row g c; unfold B5 at e; rw [e2] at e; simp at e
  · intro c; obtain ⟨cur, e2⟩ := own_block h.tones g c; unfold B5 at e; rw [e2] at e; simp at e
/-- A register is written. -/
theorem MemR.reg (h : MemR W F b bs m u gr gc gs tv) (i : Nat) (v : Value) (m' : MS) (he : ∀ R S : Value, (rcells u R S m tv).set i v = rcells u R S m' tv) (e1 : m'.ram = m.ram) (e2 : m'.scr = m.scr) (e4 : m'.tones = m.tones) : MemR (W.setCell ⟨b, i, none⟩ v) F b bs m' u gr gc gs tv := by
  have k : ∀ j, j ≠ b → (W.setCell ⟨b, i, none⟩ v).heap[j]? = W.heap[j]? := fun j hj => setCell_other _ _ _ _ _ hj
  refine ⟨by rw [setCell_heap W b i _ 54 v h.blk, he], ⟨h.banks.len, own_kept h.banks.row fun g e _ => k g (h.nu g e), fun j t g a c => ?_, h.banks.nd⟩, ?_, ?_, by rw [e1]; exact h.rl, by rw [e2]; exact h.sl, by rw [e4]; exact own_kept h.tones fun g e _ => k g (h.nt g e), h.nr, h.nc, h.rc, h.fb, h.fu, h.fg, h.fr, h.fc, h.ft⟩
  · obtain ⟨x1, x2, x3, x4⟩ := h.banks.dat j t g a c
    exact ⟨(k _ (h.n5 _ _ x1).1).trans x1, x2, x3, x4⟩
  · rw [e1]; exact (k _ (h.n5 _ _ h.ram).1).trans h.ram
  · rw [e2]; exact (k _ (h.n5 _ _ h.scr).1).trans h.scr
theorem MemR.ramS (h : MemR W F b bs m u gr gc gs tv) (i : Nat) (x : UInt8) : MemR (W.setCell ⟨gr, i, none⟩ (.int .u8 (bt x))) F b bs { m with ram := m.ram.set i x } u gr gc gs tv := by
  have k : ∀ j, j ≠ gr → (W.setCell ⟨gr, i, none⟩ (.int .u8 (bt x))).heap[j]? = W.heap[j]? := fun j hj => setCell_other _ _ _ _ _ hj
  obtain ⟨n1, n2, n3⟩ := h.n5 _ _ h.ram
  refine ⟨(k _ n1.symm).trans h.blk, ⟨h.banks.len, own_kept h.banks.row fun g e _ => k g (fun c => n2 (c ▸ e)), fun j t g a c => ?_, h.banks.nd⟩, ?_, (k _ h.rc.symm).trans h.scr, by simp [h.rl], h.sl, own_kept h.tones fun g e _ => k g (fun c => n3 (c ▸ e)), h.nr, h.nc, h.rc, h.fb, h.fu, h.fg, h.fr, h.fc, h.ft⟩
  · obtain ⟨x1, x2, x3, x4⟩ := h.banks.dat j t g a c
    exact ⟨(k _ (h.nr g (List.mem_of_getElem? c))).trans x1, x2, x3, x4⟩
  · unfold B5; rw [← bv_set]; exact setCell_heap W _ _ _ 5 _ h.ram
theorem MemR.scrS (h : MemR W F b bs m u gr gc gs tv) (i : Nat) (x : UInt8) : MemR (W.setCell ⟨gc, i, none⟩ (.int .u8 (bt x))) F b bs { m with scr := m.scr.set i x } u gr gc gs tv := by
  have k : ∀ j, j ≠ gc → (W.setCell ⟨gc, i, none⟩ (.int .u8 (bt x))).heap[j]? = W.heap[j]? := fun j hj => setCell_other _ _ _ _ _ hj
  obtain ⟨n1, n2, n3⟩ := h.n5 _ _ h.scr
  refine ⟨(k _ n1.symm).trans h.blk, ⟨h.banks.len, own_kept h.banks.row fun g e _ => k g (fun c => n2 (c ▸ e)), fun j t g a c => ?_, h.banks.nd⟩, (k _ h.rc).trans h.ram, ?_, h.rl, by simp [h.sl], own_kept h.tones fun g e _ => k g (fun c => n3 (c ▸ e)), h.nr, h.nc, h.rc, h.fb, h.fu, h.fg, h.fr, h.fc, h.ft⟩
  · obtain ⟨x1, x2, x3, x4⟩ := h.banks.dat j t g a c
    exact ⟨(k _ (h.nc g (List.mem_of_getElem? c))).trans x1, x2, x3, x4⟩
  · unfold B5; rw [← bv_set]; exact setCell_heap W _ _ _ 5 _ h.scr
/-- One bank's bytes are others. -/
def setB (bs : List (Int × List UInt8)) (n : Int) (l : List UInt8) : List (Int × List UInt8) := bs.map fun t => if t.1 = n then (t.1, l) else t
theorem bcs_setB (n : Int) (l : List UInt8) : ∀ (bs : List (Int × List UInt8)) (gs : List (Nat × Nat)), (∀ t ∈ bs, t.1 = n → t.2.length = l.length) → bcs (setB bs n l) gs = bcs bs gs
  | [], gs, _ => by cases gs <;> rfl
  | t :: bs, [], _ => rfl
  | t :: bs, g :: gs, h => by
    have ih := bcs_setB n l bs gs fun x hx => h x (List.mem_cons_of_mem _ hx)
    simp only [setB, List.map_cons, bcs] at ih ⊢
    rw [ih]
    congr 1
    split
    · next c => simp only [bc, h t (by simp) c]
    · rfl
theorem MemR.bankS (h : MemR W F b bs m u gr gc gs tv) (hd : (bs.map Prod.fst).Nodup) (k : Nat) (t : Int × List UInt8) (g : Nat × Nat) (ht : bs[k]? = some t) (hg : gs[k]? = some g) (i : Nat) (x : UInt8) (m' : MS) (e1 : m'.ram = m.ram) (e2 : m'.scr = m.scr) (e4 : m'.tones = m.tones) (e5 : ∀ R S, rcells u R S m' tv = rcells u R S m tv) :
    MemR (W.setCell ⟨g.1, i, none⟩ (.int .u8 (bt x))) F b (setB bs t.1 (t.2.set i x)) m' u gr gc gs tv := by
  have kk : ∀ j, j ≠ g.1 → (W.setCell ⟨g.1, i, none⟩ (.int .u8 (bt x))).heap[j]? = W.heap[j]? := fun j hj => setCell_other _ _ _ _ _ hj
  obtain ⟨x1, x2, x3, x4⟩ := h.banks.dat k t g ht hg
  obtain ⟨n1, n2, n3⟩ := h.n5 _ _ x1
  have hgm := List.mem_of_getElem? hg
  have hlen : (setB bs t.1 (t.2.set i x)).length = bs.length := by simp [setB]
  have hsame : ∀ y ∈ bs, y.1 = t.1 → y.2.length = (t.2.set i x).length := by
    intro y hy e
    obtain ⟨j, hj, ej⟩ := List.mem_iff_getElem.1 hy
    have hjg : j < gs.length := by rw [h.banks.len]; exact hj
    have := (h.banks.dat j y gs[j] (by rw [List.getElem?_eq_getElem hj, ej]) (List.getElem?_eq_getElem hjg)).2.2.1
    simp [x3, this]
  refine ⟨by rw [e5]; exact (kk _ n1.symm).trans h.blk, ⟨by rw [hlen]; exact h.banks.len, ?_, fun j y z a c => ?_, h.banks.nd⟩, by rw [e1]; exact (kk _ (h.nr g hgm).symm).trans h.ram, by rw [e2]; exact (kk _ (h.nc g hgm).symm).trans h.scr, by rw [e1]; exact h.rl, by rw [e2]; exact h.sl, by rw [e4]; exact own_kept h.tones fun q e _ => kk q (fun c => n3 (c ▸ e)), h.nr, h.nc, h.rc, h.fb, h.fu, h.fg, h.fr, h.fc, h.ft⟩
  · rw [hlen, bcs_setB _ _ bs gs hsame]; exact own_kept h.banks.row fun q e _ => kk q (fun c => n2 (c ▸ e))
  · simp only [setB, List.getElem?_map, Option.map_eq_some_iff] at a
    obtain ⟨y0, a0, ay⟩ := a
    obtain ⟨w1, w2, w3, w4⟩ := h.banks.dat j y0 z a0 c
    by_cases ej : j = k
    · subst ej
      rw [ht] at a0; cases a0
      rw [hg] at c; cases c
      rw [if_pos rfl] at ay
      subst ay
      refine ⟨?_, x2, by simp [x3], x4⟩
      unfold B5; rw [← bv_set]; exact setCell_heap W _ _ _ 5 _ x1
    · have hne : y0.1 ≠ t.1 := by
        intro e
        have a1 : (bs.map Prod.fst)[j]? = some t.1 := by rw [List.getElem?_map, a0]; simp [e]
        have a2 : (bs.map Prod.fst)[k]? = some t.1 := by rw [List.getElem?_map, ht]; rfl
        obtain ⟨l1, q1⟩ := List.getElem?_eq_some_iff.1 a1
        obtain ⟨l2, q2⟩ := List.getElem?_eq_some_iff.1 a2
        exact ej ((List.getElem_inj (h₀ := l1) (h₁ := l2) hd).1 (by rw [q1, q2]))
      rw [if_neg hne] at ay
      subst ay
      have hzg : z.1 ≠ g.1 := by
        intro e
        have a1 : (gs.map Prod.fst)[j]? = some g.1 := by rw [List.getElem?_map, c]; simp [e]
        have a2 : (gs.map Prod.fst)[k]? = some g.1 := by rw [List.getElem?_map, hg]; rfl
        obtain ⟨l1, q1⟩ := List.getElem?_eq_some_iff.1 a1
        obtain ⟨l2, q2⟩ := List.getElem?_eq_some_iff.1 a2
        exact ej ((List.getElem_inj (h₀ := l1) (h₁ := l2) h.banks.nd).1 (by rw [q1, q2]))
      exact ⟨(kk _ hzg).trans w1, w2, w3, w4⟩
end
theorem inO_keys (m : MS) : ∀ k, ((inO m k).map Prod.fst).Nodup ∧ ∀ t ∈ inO m k, t.1 < (k : Int)
  | 0 => by simp [inO]
  | k + 1 => by
    obtain ⟨h1, h2⟩ := inO_keys m k
    cases hb : m.banks k with
    | none => rw [inO_none m k hb]; exact ⟨h1, fun t ht => by have := h2 t ht; omega⟩
    | some l =>
      rw [inO_some m k l hb]
      refine ⟨?_, ?_⟩
      · rw [List.map_append, List.nodup_append]
        refine ⟨h1, by simp, ?_⟩
        intro a ha c hc e
        simp at hc
        simp only [List.mem_map] at ha
        obtain ⟨y, hy, rfl⟩ := ha
        have := h2 y hy
        omega
      · intro t ht
        rcases List.mem_append.1 ht with ht | ht
        · have := h2 t ht; omega
        · simp at ht; subst ht; simp; omega
theorem inO_setB (m : MS) (n : Nat) (l0 l : List UInt8) (hb : m.banks n = some l0) : ∀ k, inO { m with banks := upd m.banks n l } k = setB (inO m k) (n : Int) l
  | 0 => by simp [inO, setB]
  | k + 1 => by
    have ih := inO_setB m n l0 l hb k
    by_cases e : k = n
    · subst e
      have h1 : ({ m with banks := upd m.banks k l } : MS).banks k = some l := by simp [upd]
      rw [inO_some _ k l h1, inO_some m k l0 hb, ih]
      simp [setB]
    · cases hk : m.banks k with
      | none =>
        have h1 : ({ m with banks := upd m.banks n l } : MS).banks k = none := by simp [upd, e, hk]
        rw [inO_none _ k h1, inO_none m k hk, ih]
      | some x =>
        have h1 : ({ m with banks := upd m.banks n l } : MS).banks k = some x := by simp [upd, e, hk]
        rw [inO_some _ k x h1, inO_some m k x hk, ih]
        have : ((k : Int)) ≠ (n : Int) := by omega
        simp [setB, this]
end Go.Proofs.YtgponcjjnjpfkabGreat.M
/-! The reference: Copy, walked. -/
namespace Go.Proofs.YtgponcjjnjpfkabGreat.M
open Go.RowKit
open Go.Proofs
set_option linter.unusedVariables false
set_option linter.unusedSimpArgs false
set_option maxRecDepth 100000 in
theorem step_full {ops : Array Oper} {o : Oper} {a : Act} {w : World} {K : Act → World → Prop} {Q : Exit → Act → World → Prop} {E : Prop} (hgd : o.guard = none) (s x : Operand) (ho : o.op = .call { callee := .value (.func 52), args := #[s, x], argTypes := #[51, 3] })
    (u v : Value) (hs : a.eval s = u) (hx : a.eval x = v) {Post : Ending → World → Prop} (hc : Calls Tryz.prog 52 #[u, v] w Post) (h : ∀ e w', Post e w' → ∃ v, e = .returned v ∧ K (a.put o.dst v) w') :
    if Region.wanted o (yielded ops a.tmps) = true then Oper.wp Tryz.prog o a w K Q else E := by
  have hw : Region.wanted o (yielded ops a.tmps) = true := by simp [Region.wanted, hgd]
  rw [if_pos hw]
  unfold Oper.wp execOp
  simp only [ho, resolve, invoke, Sem.run_bind, Sem.run_pure, Result.andThen_ok, List.map_toArray, List.map_cons, List.map_nil, hs, hx, Tryz.call52]
  refine hc.mono ?_
  intro e w' hp
  obtain ⟨v, rfl, hk⟩ := h e w' hp
  exact hk
set_option maxHeartbeats 4000000
set_option maxRecDepth 100000
theorem rcopy_any (b : Nat) (bs : List (Int × List UInt8)) (m : MS) (pb : Option Addr) (c : Nat) (rv sv tv : Value) (w : World) (h : RV w b bs m pb c rv sv tv) :
    Calls Tryz.prog 67 #[.pointer (some ⟨b, 0, none⟩)] w fun e w' => ∃ b', e = .returned (.pointer (some ⟨b', 0, none⟩)) ∧ HasR w' (fun k => w.heap.size ≤ k) b' (padB bs) { m with ram := padN 16384 m.ram, scr := padN 3072 m.scr } ∧ Below w.heap.size w w' := by
  have c0 := cell_of w b 0 _ 54 _ h.blk rfl
  have c1 := cell_of w b 1 _ 54 _ h.blk rfl
  have c2 := cell_of w b 2 _ 54 _ h.blk rfl
  have c3 := cell_of w b 3 _ 54 _ h.blk rfl
  have c4 := cell_of w b 4 _ 54 _ h.blk rfl
  have c5 := cell_of w b 5 _ 54 _ h.blk rfl
  have c6 := cell_of w b 6 _ 54 _ h.blk rfl
  have c7 := cell_of w b 7 _ 54 _ h.blk rfl
  have c8 := cell_of w b 8 _ 54 _ h.blk rfl
  have c9 := cell_of w b 9 _ 54 _ h.blk rfl
  have hbw := lt_of h.blk
  have hrv : ∃ p n c, rv = .slice p n c := by obtain ⟨p, c, e, _⟩ := h.rs.ex; exact ⟨p, _, c, e⟩
  have hsv : ∃ p n c, sv = .slice p n c := by obtain ⟨p, c, e, _⟩ := h.ss.ex; exact ⟨p, _, c, e⟩
  have htv : ∃ p n c, tv = .slice p n c := by rcases h.ts with ⟨e, _⟩ | ⟨ad, c, e, _⟩ <;> exact ⟨_, _, _, e⟩
  obtain ⟨rp, rn, rc, rfl⟩ := hrv
  obtain ⟨sp, sn, sc', rfl⟩ := hsv
  obtain ⟨tp, tn, tcp, rfl⟩ := htv
  have HH : Hid _ := h
  have hl := h.bl
  unfold room at hl
  clear h
  go_enter Tryz.func67, Tryz.ntmps67
  go_wp2
  go_loopw [15] (fun i wr => ∃ (k : Nat) (v : Value) (gs : List (Nat × Nat)), k ≤ bs.length ∧ i = .int .i64 (k : Int) ∧ CR w wr v (.slice rp rn rc) (.slice sp sn sc') m (.slice tp tn tcp) (padB (bs.take k)) gs) (fun i _ => bs.length - (intOf i).toNat)
  case atStart => exact ⟨0, _, [], by omega, rfl, CR.start w _ _ m _⟩
  case round =>
    clear c0 c1 c2 c3 c4 c5 c6 c7 c8 c9
    obtain ⟨k, v, gs, hk, rfl, hC⟩ := hrel
    by_cases hlt : k < bs.length
    · have i1 : (k : Int) < bs.length := by omega
      obtain ⟨bb, o, dv, rfl, e1, e2, e3, e4⟩ := HH.out.bn.below hC.bel k bs[k] (List.getElem?_eq_getElem hlt)
      have hdl := HH.out.dl bs[k] (List.getElem_mem hlt)
      have htk : padB (bs.take (k + 1)) = padB (bs.take k) ++ [((bs[k]).1, padN 16384 (bs[k]).2)] := by rw [List.take_succ_eq_append_getElem hlt, padB_snoc]
      generalize bs[k] = t at *
      have hbL : Below wr.heap.size wr (wr.alloc (.cells #[.int .i64 t.1, dv] 72)).drew := ((Below.refl _ _).alloc (Nat.le_refl _) _).drew
      have hv2 : (wr.alloc (.cells #[.int .i64 t.1, dv] 72)).drew.heap[wr.heap.size]? = some (.cells [.int .i64 t.1, dv].toArray 72 (0, 0)) := heap_alloc_new wr _
      have hfu := full_any dv t.2 16384 (by omega) hdl (wr.alloc (.cells #[.int .i64 t.1, dv] 72)).drew (Sl.below e3 hbL)
      have hN := hC.siz
      have hz1 : (wr.alloc (.cells #[.int .i64 t.1, dv] 72)).drew.heap.size = wr.heap.size + 1 := by simp
      have hne : wr.heap.size ≠ w.heap.size := by omega
      have cN : (wr.alloc (.cells #[.int .i64 t.1, dv] 72)).cell? ⟨w.heap.size, 0, none⟩ = some v := cell_of _ _ 0 _ 54 _ ((Below.heap_alloc wr _ _ (by omega)).trans hC.blk) rfl
      have s1 : (wr.alloc (.cells #[.int .i64 t.1, dv] 72)).drew.cell? ⟨wr.heap.size, 0, none⟩ = some (.int .i64 t.1) ∧ (wr.alloc (.cells #[.int .i64 t.1, dv] 72)).drew.cell? ⟨wr.heap.size, 1, none⟩ = some dv := ⟨cell_of _ _ 0 _ 72 _ hv2 rfl, cell_of _ _ 1 _ 72 _ hv2 rfl⟩
      obtain ⟨vp, vc, hvf⟩ := own_form hC.banks.row
      subst hvf
      have hlk : (padB (bs.take k)).length = k := by simp [padB]; omega
      rw [hlk] at hC cN
      have hend : ∀ w2 : World, Below (wr.alloc (.cells #[.int .i64 t.1, dv] 72)).drew.heap.size (wr.alloc (.cells #[.int .i64 t.1, dv] 72)).drew w2 → B5 w2 (wr.heap.size + 1) (padN 16384 t.2) → w2.heap.size = wr.heap.size + 1 + 1 →
          w2.cell? ⟨w.heap.size, 0, none⟩ = some (.slice vp k vc) ∧ (w2.cell? ⟨wr.heap.size, 0, none⟩ = some (.int .i64 t.1) ∧ w2.cell? ⟨wr.heap.size, 1, none⟩ = some dv) ∧
          ((w2.alloc (.cells #[.int .i64 t.1, .slice (some ⟨wr.heap.size + 1, 0, none⟩) 16384 16384] 72)).cell? ⟨w.heap.size, 0, none⟩ = some (.slice vp k vc)) ∧
          ((w2.alloc (.cells #[.int .i64 t.1, .slice (some ⟨wr.heap.size + 1, 0, none⟩) 16384 16384] 72)).cell? ⟨wr.heap.size, 0, none⟩ = some (.int .i64 t.1) ∧ (w2.alloc (.cells #[.int .i64 t.1, .slice (some ⟨wr.heap.size + 1, 0, none⟩) 16384 16384] 72)).cell? ⟨wr.heap.size, 1, none⟩ = some dv) ∧
          (w2.alloc (.cells #[.int .i64 t.1, .slice (some ⟨wr.heap.size + 1, 0, none⟩) 16384 16384] 72)).ownsRow (w.heap.size + 1) 72 2 (.slice vp k vc) k (bcs (padB (bs.take k)) gs) ∧
          Cs (w2.alloc (.cells #[.int .i64 t.1, .slice (some ⟨wr.heap.size + 1, 0, none⟩) 16384 16384] 72)) (.slice (some ⟨w2.heap.size, 0, none⟩) 1 1) 2 1 (bc (t.1, padN 16384 t.2) (wr.heap.size + 1, 16384)) ∧
          w.heap.size + 1 ≤ (w2.alloc (.cells #[.int .i64 t.1, .slice (some ⟨wr.heap.size + 1, 0, none⟩) 16384 16384] 72)).heap.size ∧
          (∀ v' w4, w4.ownsRow (w.heap.size + 1) 72 2 v' (k + 1) (bcs (padB (bs.take k)) gs ++ bc (t.1, padN 16384 t.2) (wr.heap.size + 1, 16384)) → Grew (w2.alloc (.cells #[.int .i64 t.1, .slice (some ⟨wr.heap.size + 1, 0, none⟩) 16384 16384] 72)) w4 (.slice vp k vc) v' →
            (w4.cell? ⟨wr.heap.size, 0, none⟩ = some (.int .i64 t.1) ∧ w4.cell? ⟨wr.heap.size, 1, none⟩ = some dv) ∧ w4.cell? ⟨w.heap.size, 0, none⟩ = some (.slice vp k vc) ∧ w4.frozen? ⟨w.heap.size, 0, none⟩ = false ∧
            CR w (w4.setCell ⟨w.heap.size, 0, none⟩ v') v' (.slice rp rn rc) (.slice sp sn sc') m (.slice tp tn tcp) (padB (bs.take (k + 1))) (gs ++ [(wr.heap.size + 1, 16384)])) := by
        intro w2 hb2 h52 hz2
        have kp : ∀ j, j < wr.heap.size + 1 → w2.heap[j]? = (wr.alloc (.cells #[.int .i64 t.1, dv] 72)).drew.heap[j]? := fun j hj => hb2.block j (by omega)
        have kw : ∀ j, j < wr.heap.size → w2.heap[j]? = wr.heap[j]? := fun j hj => (kp j (by omega)).trans (Below.heap_alloc wr _ j hj)
        have b2 := (kw w.heap.size (by omega)).trans hC.blk
        have v2 := (kp wr.heap.size (by omega)).trans hv2
        have al : ∀ j, j < w2.heap.size → (w2.alloc (.cells #[.int .i64 t.1, .slice (some ⟨wr.heap.size + 1, 0, none⟩) 16384 16384] 72)).heap[j]? = w2.heap[j]? := fun j hj => Below.heap_alloc w2 _ j hj
        have b3 := (al w.heap.size (by omega)).trans b2
        have v3 := (al wr.heap.size (by omega)).trans v2
        have hln : (padN 16384 t.2).length = 16384 := padN_len _ _ hdl
        refine ⟨cell_of _ _ 0 _ 54 _ b2 rfl, ⟨cell_of _ _ 0 _ 72 _ v2 rfl, cell_of _ _ 1 _ 72 _ v2 rfl⟩, cell_of _ _ 0 _ 54 _ b3 rfl, ⟨cell_of _ _ 0 _ 72 _ v3 rfl, cell_of _ _ 1 _ 72 _ v3 rfl⟩, ?_, ?_, by simp; omega, ?_⟩
        · have := hC.banks.row
          rw [hlk] at this
          exact own_kept this fun g e hg => (al g (by omega)).trans (kw g hg)
        · refine .inr ⟨⟨w2.heap.size, 0, none⟩, 1, rfl, rfl, ?_, by intro x hx; simp [bc] at hx; rcases hx with rfl | rfl <;> rfl⟩
          intro j x hj
          have hn : (w2.alloc (.cells #[.int .i64 t.1, .slice (some ⟨wr.heap.size + 1, 0, none⟩) 16384 16384] 72)).heap[w2.heap.size]? = some (.cells (bc (t.1, padN 16384 t.2) (wr.heap.size + 1, 16384)).toArray 72 (0, 0)) := by
            simp only [bc, hln]; exact heap_alloc_new w2 _
          have e : (⟨w2.heap.size, 0, none⟩ : Addr).add j = ⟨w2.heap.size, j, none⟩ := by rw [Addr.add_lit]; simp
          rw [e]
          exact cell_of _ _ _ _ 72 x hn hj
        · intro v' w4 ho hg
          have nv : ∀ j, j ≤ w.heap.size ∨ j = wr.heap.size → some j ≠ (Value.slice vp k vc).ownBlock := by
            intro j hj e
            rcases hj with hj | hj
            · have := (hC.banks.row.lt j e.symm).1; omega
            · have := (hC.banks.row.lt j e.symm).2; omega
          have b4 := (hg.block w.heap.size (by simp; omega) (nv _ (.inl (Nat.le_refl _)))).trans b3
          have v4 := (hg.block wr.heap.size (by simp; omega) (nv _ (.inr rfl))).trans v3
          refine ⟨⟨cell_of _ _ 0 _ 72 _ v4 rfl, cell_of _ _ 1 _ 72 _ v4 rfl⟩, cell_of _ _ 0 _ 54 _ b4 rfl, frozen_of _ _ 0 _ 54 b4, ?_⟩
          rw [htk]
          exact hC.step (t.1, padN 16384 t.2) (wr.heap.size + 1) _ _ hb2 hz1.symm h52 hln hg (by rw [hlk]; exact ho)
      obtain ⟨dp, dc, rfl, _⟩ := e3.ex
      rw [hz1] at hfu
      have hk1 : (k + 1) * 32 ≤ room := by unfold room; omega
      have hk2 : k + 1 ≤ maxLen := by unfold maxLen; omega
      have HE : Hid _ := hend
      have HZ : Hid _ := hz1
      clear hend hC e3 hv2 hbL htk hlk hz1
      go_wp2_with fail
      obtain ⟨s1a, s1b⟩ := s1
      go_region_law
        (first
          | (refine step_append_row rfl (.tmp 20) (.tmp 27) 50 72 (.agg #[.int .i64 0, .slice none 0 0]) 2 32 Tryz.underlying50 info37 rfl (by decide) rfl (w.heap.size + 1) (.slice vp k vc) k (bcs (padB (bs.take k)) gs) (by simp [Act.eval]) hown (.slice (some ⟨w2.heap.size, 0, none⟩) 1 1) 1 (bc (t.1, padN 16384 t.2) (wr.heap.size + 1, 16384)) (by simp [Act.eval]) hcs hk1 hk2 hwz ?_; intro v' w4 ho hg; obtain ⟨g9, cap9, rfl⟩ := own_pos ho (Nat.succ_pos k); obtain ⟨s4, cN4, zN4, hCR⟩ := hE2 (.slice (some ⟨g9, 0, none⟩) (k + 1) cap9) w4 ho hg; clear hE2 ho hg hown hcs s2a s2b cN2 cN3)
          | (refine step_full rfl (.tmp 24) (.const (.int .i64 16384)) rfl (.slice dp t.2.length dc) (.int .i64 16384) (by simp [Act.eval]) (by simp [Act.eval]) hfu ?_; rintro e w2 ⟨rfl, h52, hb2, hz2⟩; refine ⟨_, rfl, ?_⟩; obtain ⟨cN2, ⟨s2a, s2b⟩, cN3, s3, hown, hcs, hwz, hE2⟩ := HE.out w2 (by rw [HZ.out]; exact hb2) h52 hz2; clear hfu HE h52 hb2 hz2 s3 s1a s1b))
      all_goals
        have HC : Hid _ := hCR
        clear hCR
        go_wp2
        go_roundw
        case rel =>
          first
            | exact ⟨k + 1, _, _, by omega, by go_num, HC.out⟩
            | ((repeat apply Exists.intro); refine ⟨⟨k + 1, _, _, by omega, ?_, HC.out⟩, rfl⟩; go_num)
        case measure => simp [intOf]; omega
    · obtain rfl : k = bs.length := by omega
      rw [List.take_length] at hC
      have hR3 := HH.out.below hC.bel
      have k1 := cell_of wr b 1 _ 54 _ hR3.blk rfl
      have hsz := hC.siz
      have hf1 := full_any (.slice rp rn rc) m.ram 16384 (by omega) hR3.rl wr hR3.rs
      have g3 := hC.blk
      have HC : Hid _ := hC
      have HB3 : Hid _ := hC.bel
      clear hC hR3
      go_wp2_with fail
      refine hf1.mono ?_
      rintro e w4 ⟨rfl, h54, hb4, hz4⟩
      have g4 := (hb4.block w.heap.size (by omega)).trans g3
      have k4 := cell_of w4 w.heap.size 1 _ 54 _ g4 rfl
      have z4 := frozen_of w4 w.heap.size 1 _ 54 g4
      have hB4 : Below w.heap.size w w4 := HB3.out.trans (hb4.mono (by omega))
      obtain ⟨w5, hw5⟩ : ∃ w5, w4.setCell ⟨w.heap.size, 1, none⟩ (.slice (some ⟨wr.heap.size, 0, none⟩) 16384 16384) = w5 := ⟨_, rfl⟩
      have hB5 : Below w.heap.size w w5 := by rw [← hw5]; exact hB4.setCell (p := ⟨w.heap.size, 1, none⟩) (Nat.le_refl _) _
      have hz5 : w5.heap.size = w4.heap.size := by rw [← hw5, setCell_size]
      have g5 := setCell_heap w4 w.heap.size 1 _ 54 (.slice (some ⟨wr.heap.size, 0, none⟩) 16384 16384) g4
      rw [hw5] at g5
      have hR5 := HH.out.below hB5
      have k5 := cell_of w5 b 2 _ 54 _ hR5.blk rfl
      have hf2 := full_any (.slice sp sn sc') m.scr 3072 (by omega) hR5.sl w5 hR5.ss
      have H54 : Hid _ := h54
      have Hb4 : Hid _ := hb4
      have HB5 : Hid _ := hB5
      have HW5 : Hid _ := hw5.symm
      have HZ4 : Hid _ := hz4
      clear hf1 h54 hb4 hB4 hB5 hR5 g3 g4 hz4 k1
      go_wp2_with fail
      clear hw5 k4 z4
      refine hf2.mono ?_
      rintro e w6 ⟨rfl, h56, hb6, hz6⟩
      have g6 := (hb6.block w.heap.size (by have := HZ4.out; omega)).trans g5
      have k6 := cell_of w6 w.heap.size 2 _ 54 _ g6 rfl
      have z6 := frozen_of w6 w.heap.size 2 _ 54 g6
      have hB6 : Below w.heap.size w w6 := HB5.out.trans (hb6.mono (by have := HZ4.out; omega))
      obtain ⟨w7, hw7⟩ : ∃ w7, w6.setCell ⟨w.heap.size, 2, none⟩ (.slice (some ⟨w5.heap.size, 0, none⟩) 3072 3072) = w7 := ⟨_, rfl⟩
      have hB7 : Below w.heap.size w w7 := by rw [← hw7]; exact hB6.setCell (p := ⟨w.heap.size, 2, none⟩) (Nat.le_refl _) _
      have hR7 := HH.out.below hB7
      have hb7a : Below w7.heap.size w7 (w7.alloc (.cells #[] 99)) := (Below.refl _ _).alloc (Nat.le_refl _) _
      have k7 := cell_of (w7.alloc (.cells #[] 99)) b 9 _ 54 _ ((hR7.below hb7a).blk) rfl
      have hr0 : (w7.alloc (.cells #[] 99)).ownsRow w7.heap.size 99 3 (.slice (some ⟨w7.heap.size, 0, none⟩) 0 0) 0 [] :=
        ⟨rfl, .inr ⟨w7.heap.size, 0, #[], rfl, Nat.le_refl _, heap_alloc_new w7 _, Nat.le_refl _, by decide, by simp, by simp⟩⟩
      have hcs := hR7.ts.below hb7a
      have htl := hR7.tl
      have hfin := fun tv' => copy_end (tv' := tv') HC.out Hb4.out H54.out HZ4.out HW5.out hb6 h56 hz6 hw7.symm HH.out.rl HH.out.sl
      have HF : Hid _ := hfin
      clear hf2 h56 hb6 hB6 hB7 hR7 g5 g6 hz6 hz5 k5 hfin
      go_wp2_with (first | (at_builtin; refine wpList_append_row _ rfl _ _ 52 99 _ 3 16 Tryz.underlying52 info90 rfl (by decide) rfl w7.heap.size _ 0 [] rfl hr0 _ m.tones.length (tc m.tones) rfl hcs (by unfold room; omega) (by unfold maxLen; omega) hb7a.size ?_))
      intro v' w8 hr8 hg8
      have hb8 : Below w7.heap.size w7 w8 := hg8.belowAll (fun g e => (hr0.lt g e).1) hb7a (Nat.le_refl _)
      obtain ⟨tp2, tc2, rfl⟩ := own_form hr8
      (try simp only [Nat.zero_add, List.nil_append] at hr8)
      obtain ⟨k8, z8, hRes, hBel⟩ := HF.out _ w8 hb8 hr8
      (try simp only [Nat.zero_add])
      clear hr8 hg8 hb8 hr0 hcs hb7a k7 HF
      go_wp2
      go_ret
      exact ⟨_, rfl, hRes, hBel⟩
end Go.Proofs.YtgponcjjnjpfkabGreat.M
/-! MemRestores: the image that is tried. -/
namespace Go.Proofs.YtgponcjjnjpfkabGreat.M
open Go.RowKit
open Go.Proofs
set_option linter.unusedVariables false
set_option linter.unusedSimpArgs false
/-! ### The banks in order are the banks -/
/-! ### The image in the box -/
theorem B5.sl {W : World} {g : Nat} {l : List UInt8} {n : Nat} (h : B5 W g l) (hn : l.length = n) : Sl W (.slice (some ⟨g, 0, none⟩) n n) l := by
  refine .inr ⟨⟨g, 0, none⟩, n, by rw [hn], by omega, fun j x hj => ?_⟩
  rw [Addr.add_lit, Nat.zero_add]
  exact cell_of W g _ _ 5 _ h ((bv_get l _ _).2 ⟨x, hj, rfl⟩)
end Go.Proofs.YtgponcjjnjpfkabGreat.M
/-! The reference: Copy and Image of a memory. -/
namespace Go.Proofs.YtgponcjjnjpfkabGreat.M
open Go.RowKit
open Go.Proofs
set_option linter.unusedVariables false
set_option linter.unusedSimpArgs false
theorem RB.ex {W : World} {B : Nat} {v : Value} {bs : List (Int × List UInt8)} {gs : List (Nat × Nat)} (h : RB W B v bs gs) : ∃ p c, v = .slice p bs.length c ∧ BnS W p bs := by
  rcases h.row.2 with ⟨rfl, e⟩ | ⟨g, cap, cur, rfl, _⟩
  · have : bs = [] := List.eq_nil_of_length_eq_zero e
    subst this
    exact ⟨none, 0, rfl, fun i t ht => by simp at ht⟩
  · refine ⟨_, cap, rfl, fun i t ht => ?_⟩
    have hi := (List.getElem?_eq_some_iff.1 ht).1
    have hig : i < gs.length := by rw [h.len]; exact hi
    have hg : gs[i]? = some gs[i] := List.getElem?_eq_getElem hig
    obtain ⟨k1, k2⟩ := bcs_get bs gs i t _ ht hg
    have c1 := World.ownsRow.cells h.row (g := g) rfl _ _ k1
    have c2 := World.ownsRow.cells h.row (g := g) rfl _ _ k2
    rw [Addr.add_lit] at c1 c2
    obtain ⟨x1, x2, x3, _⟩ := h.dat i t _ ht hg
    rw [x2, x3] at c2
    refine ⟨g, 0, _, rfl, c1, c2, B5.sl x1 x3, by rw [x3]; unfold room; omega⟩
theorem MemR.rv {W : World} {F : Nat → Prop} {b : Nat} {bs : List (Int × List UInt8)} {m : MS} {u : Value} {gr gc : Nat} {gs : List (Nat × Nat)} {tv : Value} (h : MemR W F b bs m u gr gc gs tv) (hl : bs.length ≤ 16) (ht : m.tones.length ≤ 1000000) :
    ∃ pb c, u = .slice pb bs.length c ∧ RV W b bs m pb c (.slice (some ⟨gr, 0, none⟩) 16384 16384) (.slice (some ⟨gc, 0, none⟩) 3072 3072) tv := by
  obtain ⟨p, c, rfl, hb⟩ := h.banks.ex
  refine ⟨p, c, rfl, h.blk, hb, B5.sl h.ram h.rl, B5.sl h.scr h.sl, TRow.cs h.tones, by rw [h.rl]; omega, by rw [h.sl]; omega, by unfold room; omega, fun t ht => ?_, ht⟩
  obtain ⟨i, hi, e⟩ := List.mem_iff_getElem.1 ht
  have hg : i < gs.length := by rw [h.banks.len]; exact hi
  have := (h.banks.dat i t _ (by rw [List.getElem?_eq_getElem hi, e]) (List.getElem?_eq_getElem hg)).2.2.1
  omega
theorem padB_full (bs : List (Int × List UInt8)) (h : ∀ t ∈ bs, t.2.length = 16384) : padB bs = bs := by
  unfold padB
  conv => rhs; rw [← List.map_id bs]
  apply List.map_congr_left
  intro t ht
  rw [padN_full _ _ (h t ht)]; rfl
theorem inO_full (m : MS) (hw : Wf m) (k : Nat) : ∀ t ∈ inO m k, t.2.length = 16384 := by
  intro t ht
  obtain ⟨n, hn⟩ := inO_fst m k t ht
  have : ((n : Int), t.2) ∈ inO m k := by rw [← hn]; exact ht
  exact (hw.bk _ _ ((inO_mem m n t.2 k).1 this).2).2
theorem rcopy_is (b : Nat) (w : World) {F : Nat → Prop} {m : MS} (hm : IsR w F b m) (ht : m.tones.length ≤ 1000000) :
    Calls Tryz.prog 67 #[.pointer (some ⟨b, 0, none⟩)] w fun e w' => ∃ b', e = .returned (.pointer (some ⟨b', 0, none⟩)) ∧ IsR w' (fun k => w.heap.size ≤ k) b' m ∧ Below w.heap.size w w' := by
  obtain ⟨hw, u, gr, gc, gs, tv, h⟩ := hm
  obtain ⟨p, c, rfl, hv⟩ := h.rv (inO_len m 16) ht
  refine (rcopy_any b _ m p c _ _ _ w hv).mono ?_
  rintro e w' ⟨b', rfl, hR, hB⟩
  rw [padB_full _ (inO_full m hw 16), padN_full _ _ hw.ram, padN_full _ _ hw.scr] at hR
  exact ⟨b', rfl, ⟨hw, hR⟩, hB⟩
/-- What the reference's image shows. -/
structure RIm (W : World) (pb : Option Addr) (gr gc : Nat) (m : MS) : Prop where
  bn : BnS W pb (inO m 16)
  ram : Sl W (.slice (some ⟨gr, 0, none⟩) 16384 16384) m.ram
  scr : Sl W (.slice (some ⟨gc, 0, none⟩) 3072 3072) m.scr
theorem RIm.below {W W' : World} {pb : Option Addr} {gr gc : Nat} {m : MS} (h : RIm W pb gr gc m) (k : Below W.heap.size W W') : RIm W' pb gr gc m := ⟨h.bn.below k, h.ram.below k, h.scr.below k⟩
theorem rimage_end (w w1 w2 : World) {b' : Nat} {m : MS} (hm : IsR w2 (fun k => w1.heap.size ≤ k) b' m) (hb1 : Below w.heap.size w w1) (hz1 : w1.heap.size = w.heap.size + 1) (hb2 : Below w1.heap.size w1 w2)
    (hr1 : w1.heap[w.heap.size]? = some (.cells [.slice none 0 0, .slice none 0 0, .slice none 0 0, .int .u8 0, .int .u8 0, .int .u16 0, .int .u8 0, .int .u16 0].toArray 110 (0, 0))) :
    ∃ pb cb gr gc tv, w2.heap[b']? = some (.cells (rcells (.slice pb (inO m 16).length cb) (.slice (some ⟨gr, 0, none⟩) 16384 16384) (.slice (some ⟨gc, 0, none⟩) 3072 3072) m tv).toArray 54 (0, 0)) ∧
      b' ≠ w.heap.size ∧ w2.heap[w.heap.size]? = some (.cells [.slice none 0 0, .slice none 0 0, .slice none 0 0, .int .u8 0, .int .u8 0, .int .u16 0, .int .u8 0, .int .u16 0].toArray 110 (0, 0)) ∧
      (st8 w2 w.heap.size (.slice pb (inO m 16).length cb) (.slice (some ⟨gr, 0, none⟩) 16384 16384) (.slice (some ⟨gc, 0, none⟩) 3072 3072) m).heap[w.heap.size]? = some (.cells (imgC (.slice pb (inO m 16).length cb) (.slice (some ⟨gr, 0, none⟩) 16384 16384) (.slice (some ⟨gc, 0, none⟩) 3072 3072) m).toArray 110 (0, 0)) ∧
      RIm (st8 w2 w.heap.size (.slice pb (inO m 16).length cb) (.slice (some ⟨gr, 0, none⟩) 16384 16384) (.slice (some ⟨gc, 0, none⟩) 3072 3072) m) pb gr gc m ∧
      Below w.heap.size w (st8 w2 w.heap.size (.slice pb (inO m 16).length cb) (.slice (some ⟨gr, 0, none⟩) 16384 16384) (.slice (some ⟨gc, 0, none⟩) 3072 3072) m) := by
  obtain ⟨hw, u, gr, gc, gs, tv, h⟩ := hm
  obtain ⟨p, c, rfl, _⟩ := h.banks.ex
  have z2 := hb2.size
  have hr2 := (hb2.block w.heap.size (by omega)).trans hr1
  have h9 := h.kept (W' := st8 w2 w.heap.size (.slice p (inO m 16).length c) (.slice (some ⟨gr, 0, none⟩) 16384 16384) (.slice (some ⟨gc, 0, none⟩) 3072 3072) m) fun i _ hi => st8_other w2 w.heap.size i _ _ _ m (by omega)
  obtain ⟨p2, c2, e2, hb⟩ := h9.banks.ex
  cases e2
  refine ⟨p, c, gr, gc, tv, h.blk, by have : w1.heap.size ≤ b' := h.fb; omega, hr2, st8_heap w2 _ _ _ _ m _ 110 rfl hr2, ⟨hb, B5.sl h9.ram h9.rl, B5.sl h9.scr h9.sl⟩, st8_below w2 _ _ _ _ m (hb1.trans (hb2.mono (by omega))) (by omega)⟩
end Go.Proofs.YtgponcjjnjpfkabGreat.M
/-! The reference: New. -/
namespace Go.Proofs.YtgponcjjnjpfkabGreat.M
open Go.RowKit
open Go.Proofs
set_option linter.unusedVariables false
set_option linter.unusedSimpArgs false
set_option maxHeartbeats 2000000
set_option maxRecDepth 100000
theorem rnew_no (p : Option Addr) (c : Nat) (bs : List (Int × List UInt8)) (hl : bs.length ≤ room) (w : World) (h : BnS w p bs) (hm : mayB (-1) bs = false) :
    Calls Tryz.prog 28 #[.slice p bs.length c] w fun e w' => e = .returned (.tuple #[.pointer none, .int .i64 2]) ∧ Below w.heap.size w w' := by
  have hmy := mayBanks_any p c bs hl w h
  rw [hm] at hmy
  clear h hm
  go_enter Tryz.func28, Tryz.ntmps28
  go_wp2_with fail
  refine hmy.mono ?_
  rintro e w2 ⟨rfl, hb⟩
  have HB : Hid _ := hb
  clear hb hmy
  go_wp2
  go_ret2
  exact ⟨rfl, HB.out⟩
/-- A memory of nothing. -/
def ms0 : MS := ⟨fl 16384 [] 0, fl 3072 [] 0, 0, 0, 0, 0, 0, 0, [], fun _ => none⟩
/-- Ahead of the banks: the two lists of a new memory. -/
structure NW (w wM : World) (gr gc : Nat) : Prop where
  ram : B5 wM gr ms0.ram
  scr : B5 wM gc ms0.scr
  ne : gr ≠ gc
  lr : w.heap.size ≤ gr
  lc : w.heap.size ≤ gc
  bel : Below w.heap.size w wM
theorem nw_a (w : World) : NW w ((w.alloc (.cells (bv (fl 16384 [] 0)).toArray 5)).alloc (.cells (bv (fl 3072 [] 0)).toArray 5)) w.heap.size (w.heap.size + 1) := by
  refine ⟨(Below.heap_alloc _ _ _ (by simp)).trans (heap_alloc_new w _), ?_, by omega, Nat.le_refl _, by omega, ((Below.refl _ w).alloc (Nat.le_refl _) _).alloc (by simp) _⟩
  have := heap_alloc_new (w.alloc (.cells (bv (fl 16384 [] 0)).toArray 5)) (.cells (bv (fl 3072 [] 0)).toArray 5)
  have e : (w.alloc (.cells (bv (fl 16384 [] 0)).toArray 5)).heap.size = w.heap.size + 1 := by simp
  rw [e] at this; exact this
theorem nw_b (w : World) : NW w ((w.alloc (.cells (bv (fl 3072 [] 0)).toArray 5)).alloc (.cells (bv (fl 16384 [] 0)).toArray 5)) (w.heap.size + 1) w.heap.size := by
  refine ⟨?_, (Below.heap_alloc _ _ _ (by simp)).trans (heap_alloc_new w _), by omega, by omega, Nat.le_refl _, ((Below.refl _ w).alloc (Nat.le_refl _) _).alloc (by simp) _⟩
  have := heap_alloc_new (w.alloc (.cells (bv (fl 3072 [] 0)).toArray 5)) (.cells (bv (fl 16384 [] 0)).toArray 5)
  have e : (w.alloc (.cells (bv (fl 3072 [] 0)).toArray 5)).heap.size = w.heap.size + 1 := by simp
  rw [e] at this; exact this
end Go.Proofs.YtgponcjjnjpfkabGreat.M
namespace Go.Proofs.YtgponcjjnjpfkabGreat.M
open Go.RowKit
open Go.Proofs
set_option linter.unusedVariables false
theorem new_end {w w2 wM wr : World} {gr gc : Nat} {v : Value} {bs : List (Int × List UInt8)} {gs : List (Nat × Nat)} (hb : Below w.heap.size w w2) (hNW : NW w2.drew wM gr gc) (hBw : Below w.heap.size w wr)
    (hC : CR wM wr v (.slice (some ⟨gr, 0, none⟩) 16384 16384) (.slice (some ⟨gc, 0, none⟩) 3072 3072) ms0 (.slice none 0 0) bs gs) :
    HasR wr (fun k => w.heap.size ≤ k) wM.heap.size bs ms0 ∧ Below w.heap.size w wr := by
  have z1 := hb.size
  have z2 : w2.heap.size ≤ wM.heap.size := hNW.bel.size
  have lr : w2.heap.size ≤ gr := hNW.lr
  have lc : w2.heap.size ≤ gc := hNW.lc
  have hr := lt_of hNW.ram
  have hc := lt_of hNW.scr
  have hmem : ∀ y ∈ gs, wM.heap.size + 1 ≤ y.1 := by
    intro y hy
    obtain ⟨i, hi, e⟩ := List.mem_iff_getElem.1 hy
    have hb' : i < bs.length := by rw [← hC.banks.len]; exact hi
    exact (hC.banks.dat i bs[i] y (List.getElem?_eq_getElem hb') (by rw [List.getElem?_eq_getElem hi, e])).2.2.2
  refine ⟨⟨v, gr, gc, gs, .slice none 0 0, hC.blk, ⟨hC.banks.len, own_mono hC.banks.row (Nat.zero_le _), fun i t g a c => by obtain ⟨x1, x2, x3, _⟩ := hC.banks.dat i t g a c; exact ⟨x1, x2, x3, Nat.zero_le _⟩, hC.banks.nd⟩, (hC.bel.block _ hr).trans hNW.ram, (hC.bel.block _ hc).trans hNW.scr, fl_len 16384 [] 0 (by simp) (by simp), fl_len 3072 [] 0 (by simp) (by simp), World.ownsRow_nil _ _ _ _, ?_, ?_, hNW.ne, ?_, ?_, ?_, ?_, ?_, ?_⟩, hBw⟩
  · intro y hy; have := hmem y hy; omega
  · intro y hy; have := hmem y hy; omega
  · show w.heap.size ≤ wM.heap.size; omega
  · intro g e; have := (hC.banks.row.lt g e).1; show w.heap.size ≤ g; omega
  · intro y hy; have := hmem y hy; show w.heap.size ≤ y.1; omega
  · show w.heap.size ≤ gr; omega
  · show w.heap.size ≤ gc; omega
  · intro g e; simp [Value.ownBlock] at e
set_option maxHeartbeats 4000000
set_option maxRecDepth 100000
theorem rnew_yes (p : Option Addr) (c : Nat) (bs : List (Int × List UInt8)) (hl : bs.length * 32 ≤ room) (w : World) (h : BnS w p bs) (hm : mayB (-1) bs = true) (hd : ∀ t ∈ bs, t.2.length ≤ 16384) :
    Calls Tryz.prog 28 #[.slice p bs.length c] w fun e w' => ∃ b, e = .returned (.tuple #[.pointer (some ⟨b, 0, none⟩), .int .i64 0]) ∧ HasR w' (fun k => w.heap.size ≤ k) b (padB bs) ms0 ∧ Below w.heap.size w w' := by
  have hmy := mayBanks_any p c bs (by omega) w h
  rw [hm] at hmy
  have hmk1 : ∀ W : World, (Instr.makeSlice 51 (.int .i64 16384) (.int .i64 16384)).run Tryz.prog W = .ok (.slice (some ⟨W.heap.size, 0, none⟩) 16384 16384) (W.alloc (.cells (bv (fl 16384 [] 0)).toArray 5)) := fun W => by
    rw [← made_eq 16384 []]; exact run_make_row' (P := Tryz.prog) 51 5 (.int .u8 0) 1 Tryz.underlying51 info5 rfl .i64 .i64 16384 (by omega) (by omega) W
  have hmk2 : ∀ W : World, (Instr.makeSlice 51 (.int .i64 3072) (.int .i64 3072)).run Tryz.prog W = .ok (.slice (some ⟨W.heap.size, 0, none⟩) 3072 3072) (W.alloc (.cells (bv (fl 3072 [] 0)).toArray 5)) := fun W => by
    rw [← made_eq 3072 []]; exact run_make_row' (P := Tryz.prog) 51 5 (.int .u8 0) 1 Tryz.underlying51 info5 rfl .i64 .i64 3072 (by omega) (by omega) W
  have HH : Hid _ := h
  clear h hm
  unfold room at hl
  go_enter Tryz.func28, Tryz.ntmps28
  go_wp2_with fail
  refine hmy.mono ?_
  rintro e w2 ⟨rfl, hb⟩
  have HB : Hid _ := hb
  clear hb hmy
  go_wp2_with fail
  go_region
  all_goals
    go_wp2_with fail
    clear hmk1 hmk2
    go_loopw [16] (fun i wr => ∃ (wM : World) (k gr gc : Nat) (v : Value) (gs : List (Nat × Nat)), wM.heap.size = w2.heap.size + 1 + 1 ∧ NW w2.drew wM gr gc ∧ k ≤ bs.length ∧ i = .int .i64 (k : Int) ∧ CR wM wr v (.slice (some ⟨gr, 0, none⟩) 16384 16384) (.slice (some ⟨gc, 0, none⟩) 3072 3072) ms0 (.slice none 0 0) (padB (bs.take k)) gs) (fun i _ => bs.length - (intOf i).toNat)
    case atStart =>
      first
        | exact ⟨_, 0, _, _, _, [], by simp, nw_a w2.drew, by omega, rfl, CR.start ((w2.drew.alloc (.cells (bv (fl 16384 [] 0)).toArray 5)).alloc (.cells (bv (fl 3072 [] 0)).toArray 5)) _ _ ms0 _⟩
        | exact ⟨_, 0, _, _, _, [], by simp, nw_b w2.drew, by omega, rfl, CR.start ((w2.drew.alloc (.cells (bv (fl 3072 [] 0)).toArray 5)).alloc (.cells (bv (fl 16384 [] 0)).toArray 5)) _ _ ms0 _⟩
    case round =>
      obtain ⟨wM, k, gr, gc, v, gs, hNM, hNW, hk, rfl, hC⟩ := hrel
      rw [← hNM]
      have HNM : Hid _ := hNM
      have HNW : Hid _ := hNW
      have hBM : Below w.heap.size w wM := HB.out.drew.trans (hNW.bel.mono HB.out.size)
      have hBw : Below w.heap.size w wr := hBM.trans (hC.bel.mono hBM.size)
      clear hNM hNW hBM
      by_cases hlt : k < bs.length
      · have i1 : (k : Int) < bs.length := by omega
        obtain ⟨bb, o, dv, rfl, e1, e2, e3, e4⟩ := (BnS.below HH.out hBw) k bs[k] (List.getElem?_eq_getElem hlt)
        have hdl := hd bs[k] (List.getElem_mem hlt)
        clear hBw
        have htk : padB (bs.take (k + 1)) = padB (bs.take k) ++ [((bs[k]).1, padN 16384 (bs[k]).2)] := by rw [List.take_succ_eq_append_getElem hlt, padB_snoc]
        generalize bs[k] = t at *
        have hbL : Below wr.heap.size wr (wr.alloc (.cells #[.int .i64 t.1, dv] 72)).drew := ((Below.refl _ _).alloc (Nat.le_refl _) _).drew
        have hv2 : (wr.alloc (.cells #[.int .i64 t.1, dv] 72)).drew.heap[wr.heap.size]? = some (.cells [.int .i64 t.1, dv].toArray 72 (0, 0)) := heap_alloc_new wr _
        have hfu := full_any dv t.2 16384 (by omega) hdl (wr.alloc (.cells #[.int .i64 t.1, dv] 72)).drew (Sl.below e3 hbL)
        have hN := hC.siz
        have hz1 : (wr.alloc (.cells #[.int .i64 t.1, dv] 72)).drew.heap.size = wr.heap.size + 1 := by simp
        have hne : wr.heap.size ≠ wM.heap.size := by omega
        have cN : (wr.alloc (.cells #[.int .i64 t.1, dv] 72)).cell? ⟨wM.heap.size, 0, none⟩ = some v := cell_of _ _ 0 _ 54 _ ((Below.heap_alloc wr _ _ (by omega)).trans hC.blk) rfl
        have s1 : (wr.alloc (.cells #[.int .i64 t.1, dv] 72)).drew.cell? ⟨wr.heap.size, 0, none⟩ = some (.int .i64 t.1) ∧ (wr.alloc (.cells #[.int .i64 t.1, dv] 72)).drew.cell? ⟨wr.heap.size, 1, none⟩ = some dv := ⟨cell_of _ _ 0 _ 72 _ hv2 rfl, cell_of _ _ 1 _ 72 _ hv2 rfl⟩
        obtain ⟨vp, vc, hvf⟩ := own_form hC.banks.row
        subst hvf
        have hlk : (padB (bs.take k)).length = k := by simp [padB]; omega
        rw [hlk] at hC cN
        have hend : ∀ w2 : World, Below (wr.alloc (.cells #[.int .i64 t.1, dv] 72)).drew.heap.size (wr.alloc (.cells #[.int .i64 t.1, dv] 72)).drew w2 → B5 w2 (wr.heap.size + 1) (padN 16384 t.2) → w2.heap.size = wr.heap.size + 1 + 1 →
            w2.cell? ⟨wM.heap.size, 0, none⟩ = some (.slice vp k vc) ∧ (w2.cell? ⟨wr.heap.size, 0, none⟩ = some (.int .i64 t.1) ∧ w2.cell? ⟨wr.heap.size, 1, none⟩ = some dv) ∧
            ((w2.alloc (.cells #[.int .i64 t.1, .slice (some ⟨wr.heap.size + 1, 0, none⟩) 16384 16384] 72)).cell? ⟨wM.heap.size, 0, none⟩ = some (.slice vp k vc)) ∧
            ((w2.alloc (.cells #[.int .i64 t.1, .slice (some ⟨wr.heap.size + 1, 0, none⟩) 16384 16384] 72)).cell? ⟨wr.heap.size, 0, none⟩ = some (.int .i64 t.1) ∧ (w2.alloc (.cells #[.int .i64 t.1, .slice (some ⟨wr.heap.size + 1, 0, none⟩) 16384 16384] 72)).cell? ⟨wr.heap.size, 1, none⟩ = some dv) ∧
            (w2.alloc (.cells #[.int .i64 t.1, .slice (some ⟨wr.heap.size + 1, 0, none⟩) 16384 16384] 72)).ownsRow (wM.heap.size + 1) 72 2 (.slice vp k vc) k (bcs (padB (bs.take k)) gs) ∧
            Cs (w2.alloc (.cells #[.int .i64 t.1, .slice (some ⟨wr.heap.size + 1, 0, none⟩) 16384 16384] 72)) (.slice (some ⟨w2.heap.size, 0, none⟩) 1 1) 2 1 (bc (t.1, padN 16384 t.2) (wr.heap.size + 1, 16384)) ∧
            wM.heap.size + 1 ≤ (w2.alloc (.cells #[.int .i64 t.1, .slice (some ⟨wr.heap.size + 1, 0, none⟩) 16384 16384] 72)).heap.size ∧
            (∀ v' w4, w4.ownsRow (wM.heap.size + 1) 72 2 v' (k + 1) (bcs (padB (bs.take k)) gs ++ bc (t.1, padN 16384 t.2) (wr.heap.size + 1, 16384)) → Grew (w2.alloc (.cells #[.int .i64 t.1, .slice (some ⟨wr.heap.size + 1, 0, none⟩) 16384 16384] 72)) w4 (.slice vp k vc) v' →
              (w4.cell? ⟨wr.heap.size, 0, none⟩ = some (.int .i64 t.1) ∧ w4.cell? ⟨wr.heap.size, 1, none⟩ = some dv) ∧ w4.cell? ⟨wM.heap.size, 0, none⟩ = some (.slice vp k vc) ∧ w4.frozen? ⟨wM.heap.size, 0, none⟩ = false ∧
              CR wM (w4.setCell ⟨wM.heap.size, 0, none⟩ v') v' (.slice (some ⟨gr, 0, none⟩) 16384 16384) (.slice (some ⟨gc, 0, none⟩) 3072 3072) ms0 (.slice none 0 0) (padB (bs.take (k + 1))) (gs ++ [(wr.heap.size + 1, 16384)])) := by
          intro w2 hb2 h52 hz2
          have kp : ∀ j, j < wr.heap.size + 1 → w2.heap[j]? = (wr.alloc (.cells #[.int .i64 t.1, dv] 72)).drew.heap[j]? := fun j hj => hb2.block j (by omega)
          have kw : ∀ j, j < wr.heap.size → w2.heap[j]? = wr.heap[j]? := fun j hj => (kp j (by omega)).trans (Below.heap_alloc wr _ j hj)
          have b2 := (kw wM.heap.size (by omega)).trans hC.blk
          have v2 := (kp wr.heap.size (by omega)).trans hv2
          have al : ∀ j, j < w2.heap.size → (w2.alloc (.cells #[.int .i64 t.1, .slice (some ⟨wr.heap.size + 1, 0, none⟩) 16384 16384] 72)).heap[j]? = w2.heap[j]? := fun j hj => Below.heap_alloc w2 _ j hj
          have b3 := (al wM.heap.size (by omega)).trans b2
          have v3 := (al wr.heap.size (by omega)).trans v2
          have hln : (padN 16384 t.2).length = 16384 := padN_len _ _ hdl
          refine ⟨cell_of _ _ 0 _ 54 _ b2 rfl, ⟨cell_of _ _ 0 _ 72 _ v2 rfl, cell_of _ _ 1 _ 72 _ v2 rfl⟩, cell_of _ _ 0 _ 54 _ b3 rfl, ⟨cell_of _ _ 0 _ 72 _ v3 rfl, cell_of _ _ 1 _ 72 _ v3 rfl⟩, ?_, ?_, by simp; omega, ?_⟩
          · have := hC.banks.row
            rw [hlk] at this
            exact own_kept this fun g e hg => (al g (by omega)).trans (kw g hg)
          · refine .inr ⟨⟨w2.heap.size, 0, none⟩, 1, rfl, rfl, ?_, by intro x hx; simp [bc] at hx; rcases hx with rfl | rfl <;> rfl⟩
            intro j x hj
            have hn : (w2.alloc (.cells #[.int .i64 t.1, .slice (some ⟨wr.heap.size + 1, 0, none⟩) 16384 16384] 72)).heap[w2.heap.size]? = some (.cells (bc (t.1, padN 16384 t.2) (wr.heap.size + 1, 16384)).toArray 72 (0, 0)) := by
              simp only [bc, hln]; exact heap_alloc_new w2 _
            have e : (⟨w2.heap.size, 0, none⟩ : Addr).add j = ⟨w2.heap.size, j, none⟩ := by rw [Addr.add_lit]; simp
            rw [e]
            exact cell_of _ _ _ _ 72 x hn hj
          · intro v' w4 ho hg
            have nv : ∀ j, j ≤ wM.heap.size ∨ j = wr.heap.size → some j ≠ (Value.slice vp k vc).ownBlock := by
              intro j hj e
              rcases hj with hj | hj
              · have := (hC.banks.row.lt j e.symm).1; omega
              · have := (hC.banks.row.lt j e.symm).2; omega
            have b4 := (hg.block wM.heap.size (by simp; omega) (nv _ (.inl (Nat.le_refl _)))).trans b3
            have v4 := (hg.block wr.heap.size (by simp; omega) (nv _ (.inr rfl))).trans v3
            refine ⟨⟨cell_of _ _ 0 _ 72 _ v4 rfl, cell_of _ _ 1 _ 72 _ v4 rfl⟩, cell_of _ _ 0 _ 54 _ b4 rfl, frozen_of _ _ 0 _ 54 b4, ?_⟩
            rw [htk]
            exact hC.step (t.1, padN 16384 t.2) (wr.heap.size + 1) _ _ hb2 hz1.symm h52 hln hg (by rw [hlk]; exact ho)
        obtain ⟨dp, dc, rfl, _⟩ := e3.ex
        rw [hz1] at hfu
        have hk1 : (k + 1) * 32 ≤ room := by unfold room; omega
        have hk2 : k + 1 ≤ maxLen := by unfold maxLen; omega
        have HE : Hid _ := hend
        have HZ : Hid _ := hz1
        clear hend hC e3 hv2 hbL htk hlk hz1
        go_wp2_with fail
        obtain ⟨s1a, s1b⟩ := s1
        go_region_law
          (first
            | (refine step_append_row rfl (.tmp 24) (.tmp 31) 50 72 (.agg #[.int .i64 0, .slice none 0 0]) 2 32 Tryz.underlying50 info37 rfl (by decide) rfl (wM.heap.size + 1) (.slice vp k vc) k (bcs (padB (bs.take k)) gs) (by simp [Act.eval]) hown (.slice (some ⟨w2.heap.size, 0, none⟩) 1 1) 1 (bc (t.1, padN 16384 t.2) (wr.heap.size + 1, 16384)) (by simp [Act.eval]) hcs hk1 hk2 hwz ?_; intro v' w4 ho hg; obtain ⟨g9, cap9, rfl⟩ := own_pos ho (Nat.succ_pos k); obtain ⟨s4, cN4, zN4, hCR⟩ := hE2 (.slice (some ⟨g9, 0, none⟩) (k + 1) cap9) w4 ho hg; clear hE2 ho hg hown hcs s2a s2b cN2 cN3)
            | (refine step_full rfl (.tmp 28) (.const (.int .i64 16384)) rfl (.slice dp t.2.length dc) (.int .i64 16384) (by simp [Act.eval]) (by simp [Act.eval]) hfu ?_; rintro e w2 ⟨rfl, h52, hb2, hz2⟩; refine ⟨_, rfl, ?_⟩; obtain ⟨cN2, ⟨s2a, s2b⟩, cN3, s3, hown, hcs, hwz, hE2⟩ := HE.out w2 (by rw [HZ.out]; exact hb2) h52 hz2; clear hfu HE h52 hb2 hz2 s3 s1a s1b))
        all_goals
          have HC : Hid _ := hCR
          clear hCR
          go_wp2
          go_roundw
          case rel =>
            first
              | exact ⟨wM, k + 1, gr, gc, _, _, by rw [HNM.out], HNW.out, by omega, by go_num, HC.out⟩
              | (refine ⟨wM, k + 1, gr, gc, _, _, ?_, HNW.out, by omega, ?_, HC.out⟩; exact HNM.out; go_num)
          case measure => simp [intOf]; omega
      · obtain rfl : k = bs.length := by omega
        rw [List.take_length] at hC
        have hfin := new_end (w := w) HB.out HNW.out hBw hC
        have HF : Hid _ := hfin
        clear hfin hC hBw
        go_wp2
        go_ret2
        exact ⟨_, rfl, HF.out.1, HF.out.2⟩
end Go.Proofs.YtgponcjjnjpfkabGreat.M
/-! born: the kit. -/
namespace Go.Proofs.YtgponcjjnjpfkabGreat.L
open Go.RowKit
open Go.Proofs
open P
set_option linter.unusedVariables false
set_option linter.unusedSimpArgs false
set_option maxHeartbeats 4000000
set_option maxRecDepth 100000
/-- A kind, brought to 1 to 4. -/
def nk (t : Int × Int) : Int × Int := (1 + (t.1.tmod 4 + 4).tmod 4, t.2)
def nks (k : Nat) (l : List (Int × Int)) : List (Int × Int) := (l.take k).map nk ++ l.drop k
theorem nks_0 (l : List (Int × Int)) : nks 0 l = l := by simp [nks]
theorem nks_all (l : List (Int × Int)) : nks l.length l = l.map nk := by simp [nks]
theorem nks_len (k : Nat) (l : List (Int × Int)) : (nks k l).length = l.length := by simp [nks]; omega
theorem nks_get (k : Nat) (l : List (Int × Int)) (h : k < l.length) : (nks k l)[k]? = some l[k] := by
  rw [nks, List.getElem?_append_right (by simp; omega)]
  simp only [List.length_map, List.length_take, List.getElem?_drop]
  rw [show k + (k - min k l.length) = k by omega]
  exact List.getElem?_eq_getElem h
theorem nks_set (k : Nat) (l : List (Int × Int)) (h : k < l.length) : (nks k l).set k (nk l[k]) = nks (k + 1) l := by
  unfold nks
  rw [List.set_append_right _ _ (by simp; omega), List.take_succ_eq_append_getElem h, List.map_append, List.append_assoc]
  congr 1
  simp only [List.length_map, List.length_take]
  rw [show k - min k l.length = 0 by omega, List.drop_eq_getElem_cons h]
  rfl
theorem ls_of {α : Type} {e : α → List Value} {s : Nat} {W : World} {p : Option Addr} {l : List α} {c : Nat} (h : S.Sl e s W p l) (hp : p = none → c = 0) (hl : l.length ≤ c) : S.Ls e s W (.slice p l.length c) l := by
  cases p with
  | none =>
    have : l = [] := by
      cases l with
      | nil => rfl
      | cons a l => obtain ⟨b, o, e, _⟩ := h 0 a rfl; cases e
    subst this
    rw [hp rfl]
    exact .inl ⟨rfl, rfl⟩
  | some x => exact .inr ⟨x, c, rfl, hl, h⟩
theorem enK_at : ∀ (l : List (Int × Int)) (k : Nat) (z : Int) (h : k < l.length), (S.en S.eK l).set (k * 2) (.int .i64 z) = S.en S.eK (l.set k (z, l[k].2))
  | a :: l, 0, z, _ => by simp [S.en_cons, S.eK]
  | a :: l, k + 1, z, h => by
    have ih := enK_at l k z (by simpa using h)
    rw [List.set_cons_succ, S.en_cons, S.en_cons, List.getElem_cons_succ, ← ih, show (k + 1) * 2 = k * 2 + 2 by omega]
    rw [List.set_append_right _ _ (by rw [S.hK]; omega), S.hK]
    congr 1
theorem own_apart {W : World} {B B' : Nat} {v v' : Value} {l : List Int} {m : List (Int × Int)} (h : S.RowU W B v l) (h' : S.RowK W B' v' m) (g : Nat) (e : v.ownBlock = some g) (e' : v'.ownBlock = some g) : False := by
  rcases h.2 with ⟨rfl, _⟩ | ⟨a, _, _, rfl, _, ha, _⟩
  · simp [Value.ownBlock] at e
  · rcases h'.2 with ⟨rfl, _⟩ | ⟨b, _, _, rfl, _, hb, _⟩
    · simp [Value.ownBlock] at e'
    · simp [Value.ownBlock] at e e'
      subst e; subst e'
      rw [ha] at hb
      injection hb with hb
      injection hb with _ hb
      cases hb
/-- A world of the law: both sides, all apart. -/
structure WW (W : World) (B g bd br bm bx bq bz : Nat) (F G : Nat → Prop) (ev qv : Value) (D : List Int) (R : List (Int × Int)) (m : M.MS) : Prop where
  blk : W.heap[g]? = some (.cells [.pointer (some ⟨bd, 0, none⟩), .pointer (some ⟨br, 0, none⟩), .pointer (some ⟨bm, 0, none⟩), .pointer (some ⟨bx, 0, none⟩), .pointer (some ⟨bq, 0, none⟩), .pointer (some ⟨bz, 0, none⟩)].toArray 42 (0, 0))
  p : PS W bd br bm F D R m
  x : S.EV W B bx ev D
  y : S.QV W B bq qv R
  z : M.IsR W G bz m
  ng : ¬ F g ∧ ¬ G g
  nx : ¬ F bx ∧ ¬ G bx
  nq : ¬ F bq ∧ ¬ G bq
  nev : ∀ k, ev.ownBlock = some k → ¬ F k ∧ ¬ G k
  nqv : ∀ k, qv.ownBlock = some k → ¬ F k ∧ ¬ G k
  nd : ¬ G bd ∧ ¬ G br
  fg : ∀ k, F k → ¬ G k
  lo : B ≤ g ∧ B ≤ bd ∧ B ≤ br
  lf : ∀ k, F k → B ≤ k
  lg : ∀ k, G k → B ≤ k
def bkB : List (Int × List UInt8) := [(0, [1, 2, 3]), (9, [4])]
def mB : M.MS := { M.m0 with banks := M.nbk bkB }
def BornR (w w' : World) (e : Ending) (D : List Int) (R : List (Int × Int)) : Prop := ∃ g bd br bm bx bq bz F G ev qv, e = .returned (.pointer (some ⟨g, 0, none⟩)) ∧ WW w' w.heap.size g bd br bm bx bq bz F G ev qv D R mB ∧ Below w.heap.size w w'
theorem mayBk : M.mayB (-1) bkB = true := by decide
theorem inOB : M.inO mB 16 = M.padB bkB := by rfl
theorem fl0 (n : Nat) : M.fl n [] 0 = List.replicate n 0 := by simp [M.fl]
theorem isR_B {W : World} {F : Nat → Prop} {b : Nat} (hw : M.Wf mB) (h : M.HasR W F b (M.padB bkB) M.ms0) : M.IsR W F b mB := by
  refine ⟨hw, ?_⟩
  rw [inOB]
  obtain ⟨u, gr, gc, gs, tv, h⟩ := h
  have r1 := h.ram
  have r2 := h.scr
  rw [show M.ms0.ram = List.replicate 16384 0 from fl0 16384] at r1
  rw [show M.ms0.scr = List.replicate 3072 0 from fl0 3072] at r2
  exact ⟨u, gr, gc, gs, tv, ⟨h.blk, h.banks, r1, r2, hw.ram, hw.scr, h.tones, h.nr, h.nc, h.rc, h.fb, h.fu, h.fg, h.fr, h.fc, h.ft⟩⟩
theorem bnsB (w : World) : M.BnS (((w.alloc (.cells #[.int .u8 1, .int .u8 2, .int .u8 3] 5)).alloc (.cells #[.int .u8 4] 5)).alloc (.cells #[.int .i64 0, .slice (some ⟨w.heap.size, 0, none⟩) 3 3, .int .i64 9, .slice (some ⟨w.heap.size + 1, 0, none⟩) 1 1] 72)) (some ⟨w.heap.size + 2, 0, none⟩) bkB := by
  have s1 : (w.alloc (.cells #[.int .u8 1, .int .u8 2, .int .u8 3] 5)).heap.size = w.heap.size + 1 := by simp
  have h1 := (Below.heap_alloc (w.alloc (.cells #[.int .u8 1, .int .u8 2, .int .u8 3] 5)) (.cells #[.int .u8 4] 5) w.heap.size (by omega)).trans (heap_alloc_new w _)
  have h2 := heap_alloc2_new w (.cells #[.int .u8 1, .int .u8 2, .int .u8 3] 5) (.cells #[.int .u8 4] 5)
  generalize hW : (w.alloc (.cells #[.int .u8 1, .int .u8 2, .int .u8 3] 5)).alloc (.cells #[.int .u8 4] 5) = W at h1 h2 ⊢
  have s2 : W.heap.size = w.heap.size + 2 := by rw [← hW]; simp
  have h3 := heap_alloc_new W (.cells #[.int .i64 0, .slice (some ⟨w.heap.size, 0, none⟩) 3 3, .int .i64 9, .slice (some ⟨w.heap.size + 1, 0, none⟩) 1 1] 72)
  rw [s2] at h3
  have h1' := (Below.heap_alloc W (.cells #[.int .i64 0, .slice (some ⟨w.heap.size, 0, none⟩) 3 3, .int .i64 9, .slice (some ⟨w.heap.size + 1, 0, none⟩) 1 1] 72) w.heap.size (by omega)).trans h1
  have h2' := (Below.heap_alloc W (.cells #[.int .i64 0, .slice (some ⟨w.heap.size, 0, none⟩) 3 3, .int .i64 9, .slice (some ⟨w.heap.size + 1, 0, none⟩) 1 1] 72) (w.heap.size + 1) (by omega)).trans h2
  generalize W.alloc (.cells #[.int .i64 0, .slice (some ⟨w.heap.size, 0, none⟩) 3 3, .int .i64 9, .slice (some ⟨w.heap.size + 1, 0, none⟩) 1 1] 72) = W3 at h3 h1' h2' ⊢
  have sl : ∀ (b : Nat) (l : List UInt8), W3.heap[b]? = some (.cells (M.bv l).toArray 5 (0, 0)) → M.Sl W3 (.slice (some ⟨b, 0, none⟩) l.length l.length) l := fun b l h => .inr ⟨_, _, rfl, Nat.le_refl _, fun j x hj => by
    have e : (⟨b, 0, none⟩ : Addr).add j = ⟨b, j, none⟩ := by rw [Addr.add_lit]; simp
    rw [e]
    exact M.cell_of W3 _ _ _ 5 _ h ((M.bv_get _ _ _).2 ⟨x, hj, rfl⟩)⟩
  intro i t ht
  match i, ht with
  | 0, ht =>
    simp [bkB] at ht; subst ht
    exact ⟨_, 0, _, rfl, M.cell_of W3 _ _ _ 72 _ h3 rfl, M.cell_of W3 _ _ _ 72 _ h3 rfl, sl _ [1, 2, 3] h1', by decide⟩
  | 1, ht =>
    simp [bkB] at ht; subst ht
    exact ⟨_, 0, _, rfl, M.cell_of W3 _ _ _ 72 _ h3 rfl, M.cell_of W3 _ _ _ 72 _ h3 rfl, sl _ [4] h2', by decide⟩
  | i + 2, ht => simp [bkB] at ht
/-- All that born has made, at its end. -/
theorem born_fin {w wr w7 w8 w9 w10 : World} {nA : Nat} {p0 p1 : Option Addr} {c0 c1 bd br bm bz : Nat} {D : List Int} {R : List (Int × Int)}
    (hB : Below w.heap.size w wr) (hU : S.RowU wr w.heap.size (.slice p0 D.length c0) D) (hK : S.RowK wr nA (.slice p1 R.length c1) R) (hA : w.heap.size ≤ nA) (hDl : D.length ≤ 256) (hRl : R.length ≤ 128)
    (b7 : Below wr.heap.size wr w7) (b8 : Below w7.heap.size w7 w8) (hD : S.HasD w7 bd D) (hR : S.HasR w7 br R) (hs : wr.heap.size ≤ bd ∧ wr.heap.size ≤ br) (hdr : bd ≠ br)
    (hM : M.HasM w9 (fun k => w8.heap.size ≤ k) bm mB) (b9 : Below w8.heap.size w8 w9) (hZ : M.HasR w10 (fun k => w9.heap.size ≤ k) bz (M.padB bkB) M.ms0) (b10 : Below w9.heap.size w9 w10) :
    BornR w (((w10.alloc (.cells #[.slice p0 D.length c0] 78)).alloc (.cells #[.slice p1 R.length c1] 80)).alloc (.cells #[.pointer (some ⟨bd, 0, none⟩), .pointer (some ⟨br, 0, none⟩), .pointer (some ⟨bm, 0, none⟩), .pointer (some ⟨w10.heap.size, 0, none⟩), .pointer (some ⟨w10.heap.size + 1, 0, none⟩), .pointer (some ⟨bz, 0, none⟩)] 42)) (.returned (.pointer (some ⟨w10.heap.size + 2, 0, none⟩))) D R := by
  have bb : ∀ {a b c : World}, Below a.heap.size a b → Below b.heap.size b c → Below a.heap.size a c := fun h k => h.trans ⟨k.os, k.tape, k.output, k.size, fun i hi => k.block i (Nat.lt_of_lt_of_le hi h.size)⟩
  have a1 := (bel_alloc w10 (.cells #[.slice p0 D.length c0] 78))
  have a2 := a1.alloc a1.size (.cells #[.slice p1 R.length c1] 80)
  have a3 := a2.alloc a2.size (.cells #[.pointer (some ⟨bd, 0, none⟩), .pointer (some ⟨br, 0, none⟩), .pointer (some ⟨bm, 0, none⟩), .pointer (some ⟨w10.heap.size, 0, none⟩), .pointer (some ⟨w10.heap.size + 1, 0, none⟩), .pointer (some ⟨bz, 0, none⟩)] 42)
  have z1 : (w10.alloc (.cells #[.slice p0 D.length c0] 78)).heap.size = w10.heap.size + 1 := by simp
  have q1 := heap_alloc_new w10 (.cells #[.slice p0 D.length c0] 78)
  generalize hV1 : w10.alloc (.cells #[.slice p0 D.length c0] 78) = V1 at *
  have q2 := heap_alloc_new V1 (.cells #[.slice p1 R.length c1] 80)
  have q1a := (Below.heap_alloc V1 (.cells #[.slice p1 R.length c1] 80) w10.heap.size (by omega)).trans q1
  have z2 : (V1.alloc (.cells #[.slice p1 R.length c1] 80)).heap.size = w10.heap.size + 2 := by simp; omega
  rw [z1] at q2
  generalize V1.alloc (.cells #[.slice p1 R.length c1] 80) = V2 at *
  have q3 := heap_alloc_new V2 (.cells #[.pointer (some ⟨bd, 0, none⟩), .pointer (some ⟨br, 0, none⟩), .pointer (some ⟨bm, 0, none⟩), .pointer (some ⟨w10.heap.size, 0, none⟩), .pointer (some ⟨w10.heap.size + 1, 0, none⟩), .pointer (some ⟨bz, 0, none⟩)] 42)
  have q1b := (Below.heap_alloc V2 (.cells #[.pointer (some ⟨bd, 0, none⟩), .pointer (some ⟨br, 0, none⟩), .pointer (some ⟨bm, 0, none⟩), .pointer (some ⟨w10.heap.size, 0, none⟩), .pointer (some ⟨w10.heap.size + 1, 0, none⟩), .pointer (some ⟨bz, 0, none⟩)] 42) w10.heap.size (by omega)).trans q1a
  have q2b := (Below.heap_alloc V2 (.cells #[.pointer (some ⟨bd, 0, none⟩), .pointer (some ⟨br, 0, none⟩), .pointer (some ⟨bm, 0, none⟩), .pointer (some ⟨w10.heap.size, 0, none⟩), .pointer (some ⟨w10.heap.size + 1, 0, none⟩), .pointer (some ⟨bz, 0, none⟩)] 42) (w10.heap.size + 1) (by omega)).trans q2
  rw [z2] at q3
  generalize V2.alloc (.cells #[.pointer (some ⟨bd, 0, none⟩), .pointer (some ⟨br, 0, none⟩), .pointer (some ⟨bm, 0, none⟩), .pointer (some ⟨w10.heap.size, 0, none⟩), .pointer (some ⟨w10.heap.size + 1, 0, none⟩), .pointer (some ⟨bz, 0, none⟩)] 42) = V3 at *
  have c7 : Below w7.heap.size w7 V3 := bb (bb (bb b8 b9) b10) a3
  have c0' : Below wr.heap.size wr V3 := bb b7 c7
  have c9 : Below w9.heap.size w9 V3 := bb b10 a3
  have n1 := hB.size; have n7 := b7.size; have n8 := b8.size; have n9 := b9.size; have n10 := b10.size
  have ld := S.lt_of hD.1
  have lr := S.lt_of hR.1
  have hU' : S.RowU V3 w.heap.size (.slice p0 D.length c0) D := S.own_kept hU fun g _ hg => c0'.block g hg
  have hK' : S.RowK V3 w.heap.size (.slice p1 R.length c1) R := S.own_mono (S.own_kept hK fun g _ hg => c0'.block g hg) hA
  refine ⟨w10.heap.size + 2, bd, br, bm, w10.heap.size, w10.heap.size + 1, bz, fun k => w8.heap.size ≤ k ∧ k < w9.heap.size, fun k => w9.heap.size ≤ k ∧ k < w10.heap.size, _, _, rfl,
    ⟨q3, ⟨hD.below c7, hR.below c7, (hM.mono fun i hi g => ⟨g, hi⟩).kept fun i hi _ => c9.block i hi, hdr, by omega, by omega⟩, ⟨q1b, hU', by omega, hDl⟩, ⟨q2b, hK', by omega, hRl⟩,
      (((isR_B hM.wf hZ).mono fun i hi g => ⟨g, hi⟩).below a3), by omega, by omega, by omega, ?_, ?_, by omega, fun k a b => by omega, by omega, fun k a => by omega, fun k a => by omega⟩,
    hB.trans ⟨c0'.os, c0'.tape, c0'.output, c0'.size, fun i hi => c0'.block i (Nat.lt_of_lt_of_le hi n1)⟩⟩
  · intro k e
    have := (hU.lt k e).2
    omega
  · intro k e
    have := (hK.lt k e).2
    omega
theorem tm4 (t : Int) : -4 < t.tmod 4 ∧ t.tmod 4 < 4 := by
  cases t with
  | ofNat n => simp only [Int.ofNat_eq_natCast]; rw [show ((n : Int).tmod 4) = ((n % 4 : Nat) : Int) from rfl]; omega
  | negSucc n => rw [show (Int.negSucc n).tmod 4 = -(((n + 1) % 4 : Nat) : Int) from rfl]; omega
end Go.Proofs.YtgponcjjnjpfkabGreat.L
/-! The reference: Image. -/
namespace Go.Proofs.YtgponcjjnjpfkabGreat.M
open Go.RowKit
open Go.Proofs
set_option linter.unusedVariables false
set_option linter.unusedSimpArgs false
set_option maxHeartbeats 4000000
set_option maxRecDepth 100000
theorem sizeIm : (Tryz.prog.info? 110).map (·.size) = some 8 := by kernel_rfl
/-- A store of a whole row, as one step of a region that draws. -/
theorem step_store_row {ops : Array Oper} {o : Oper} {a : Act} {w : World} {K : Act → World → Prop} {Q : Exit → Act → World → Prop} {E : Prop} (hgd : o.guard = none) (ty : TypeId) (x y : Operand) (ho : o.op = .store ty x y)
    (g : Nat) (cells : Array Value) (hx : a.eval x = .pointer (some ⟨g, 0, none⟩)) (hy : a.eval y = .agg cells)
    (t : TypeId) (old : Array Value) (hg : w.heap[g]? = some (.cells old t (0, 0))) (hi : (Tryz.prog.info? ty).map (·.size) = some cells.size)
    (hold : old.size = cells.size) (h1 : cells.all (·.oneCell') = true) (h : K (a.put o.dst undef) (w.setRow g cells)) :
    if Region.wanted o (yielded ops a.tmps) = true then Oper.wp Tryz.prog o a w K Q else E := by
  have hw : Region.wanted o (yielded ops a.tmps) = true := by simp [Region.wanted, hgd]
  rw [if_pos hw]
  exact wp_store_row ty x y ho g cells hx hy t old hg hi hold h1 h
def z8 : Array Value := #[.slice none 0 0, .slice none 0 0, .slice none 0 0, .int .u8 0, .int .u8 0, .int .u16 0, .int .u8 0, .int .u16 0]
theorem rimage_any (b : Nat) (w : World) {F : Nat → Prop} {m : MS} (hm : IsR w F b m) (ht : m.tones.length ≤ 1000000) :
    Calls Tryz.prog 39 #[.pointer (some ⟨b, 0, none⟩)] w fun e w' => ∃ pb cb gr gc, e = .returned (.agg (imgC (.slice pb (inO m 16).length cb) (.slice (some ⟨gr, 0, none⟩) 16384 16384) (.slice (some ⟨gc, 0, none⟩) 3072 3072) m).toArray) ∧ RIm w' pb gr gc m ∧ Below w.heap.size w w' := by
  obtain ⟨w1, hw1⟩ : ∃ w1, w.alloc (.cells #[.slice none 0 0, .slice none 0 0, .slice none 0 0, .int .u8 0, .int .u8 0, .int .u16 0, .int .u8 0, .int .u16 0] 110) = w1 := ⟨_, rfl⟩
  have hb1 : Below w.heap.size w w1 := by rw [← hw1]; exact (Below.refl _ w).alloc (Nat.le_refl _) _
  have hz1 : w1.heap.size = w.heap.size + 1 := by rw [← hw1]; simp
  have hr1 : w1.heap[w.heap.size]? = some (.cells z8 110 (0, 0)) := by rw [← hw1]; exact heap_alloc_new w _
  have hc := rcopy_is b w1 (hm.below hb1) ht
  clear hm
  go_enter Tryz.func39, Tryz.ntmps39
  go_wp2_with fail
  refine hc.mono ?_
  rintro e w2 ⟨b', rfl, hR, hB⟩
  obtain ⟨hw, u, gr, gc, gs, tv, h⟩ := hR
  obtain ⟨pb, cb, rfl, -⟩ := h.banks.ex
  have hbz := hB.size
  have hne : b' ≠ w.heap.size := by have : w1.heap.size ≤ b' := h.fb; omega
  have hr2 : w2.drew.heap[w.heap.size]? = some (.cells z8 110 (0, 0)) := (hB.block w.heap.size (by omega)).trans hr1
  have h9 := h.kept (W' := w2.drew.setRow w.heap.size #[.slice pb (inO m 16).length cb, .slice (some ⟨gr, 0, none⟩) 16384 16384, .slice (some ⟨gc, 0, none⟩) 3072 3072, .int .u8 m.ch, .int .u8 m.pad, .int .u16 m.pitch, .int .u8 m.vol, .int .u16 m.time]) fun i _ hi => setRow_other w2.drew w.heap.size i _ (by have : w1.heap.size ≤ i := hi; omega)
  have hfin := setRow_heap w2.drew w.heap.size _ #[.slice pb (inO m 16).length cb, .slice (some ⟨gr, 0, none⟩) 16384 16384, .slice (some ⟨gc, 0, none⟩) 3072 3072, .int .u8 m.ch, .int .u8 m.pad, .int .u16 m.pitch, .int .u8 m.vol, .int .u16 m.time] _ _ hr2
  obtain ⟨p2, c2, e2, hb9⟩ := h9.banks.ex
  cases e2
  have hRI : RIm (w2.drew.setRow w.heap.size #[.slice pb (inO m 16).length cb, .slice (some ⟨gr, 0, none⟩) 16384 16384, .slice (some ⟨gc, 0, none⟩) 3072 3072, .int .u8 m.ch, .int .u8 m.pad, .int .u16 m.pitch, .int .u8 m.vol, .int .u16 m.time]) pb gr gc m := ⟨hb9, B5.sl h9.ram h9.rl, B5.sl h9.scr h9.sl⟩
  have hB2 : Below w.heap.size w w2 := hb1.trans (hB.mono (by omega))
  have hBF : Below w.heap.size w (w2.drew.setRow w.heap.size #[.slice pb (inO m 16).length cb, .slice (some ⟨gr, 0, none⟩) 16384 16384, .slice (some ⟨gc, 0, none⟩) 3072 3072, .int .u8 m.ch, .int .u8 m.pad, .int .u16 m.pitch, .int .u8 m.vol, .int .u16 m.time]) := ⟨hB2.os, hB2.tape, hB2.output, Nat.le_trans hB2.size (by simp [World.setRow]), fun i hi => (setRow_other w2.drew w.heap.size i _ (by omega)).trans (hB2.block i hi)⟩
  have s0 : (fun w' => w'.cell? ⟨b', 0, none⟩ = some (.slice pb (inO m 16).length cb) ∧ w'.cell? ⟨b', 1, none⟩ = some (.slice (some ⟨gr, 0, none⟩) 16384 16384) ∧ w'.cell? ⟨b', 2, none⟩ = some (.slice (some ⟨gc, 0, none⟩) 3072 3072) ∧ w'.cell? ⟨b', 3, none⟩ = some (.int .u8 m.ch) ∧ w'.cell? ⟨b', 4, none⟩ = some (.int .u8 m.pad) ∧ w'.cell? ⟨b', 5, none⟩ = some (.int .u16 m.pitch) ∧ w'.cell? ⟨b', 6, none⟩ = some (.int .u8 m.vol) ∧ w'.cell? ⟨b', 7, none⟩ = some (.int .u16 m.time)) w2.drew := ⟨cell_of w2.drew b' 0 _ 54 _ h.blk rfl, cell_of w2.drew b' 1 _ 54 _ h.blk rfl, cell_of w2.drew b' 2 _ 54 _ h.blk rfl, cell_of w2.drew b' 3 _ 54 _ h.blk rfl, cell_of w2.drew b' 4 _ 54 _ h.blk rfl, cell_of w2.drew b' 5 _ 54 _ h.blk rfl, cell_of w2.drew b' 6 _ 54 _ h.blk rfl, cell_of w2.drew b' 7 _ 54 _ h.blk rfl⟩
  have s1 : (fun w' => w'.cell? ⟨b', 0, none⟩ = some (.slice pb (inO m 16).length cb) ∧ w'.cell? ⟨b', 1, none⟩ = some (.slice (some ⟨gr, 0, none⟩) 16384 16384) ∧ w'.cell? ⟨b', 2, none⟩ = some (.slice (some ⟨gc, 0, none⟩) 3072 3072) ∧ w'.cell? ⟨b', 3, none⟩ = some (.int .u8 m.ch) ∧ w'.cell? ⟨b', 4, none⟩ = some (.int .u8 m.pad) ∧ w'.cell? ⟨b', 5, none⟩ = some (.int .u16 m.pitch) ∧ w'.cell? ⟨b', 6, none⟩ = some (.int .u8 m.vol) ∧ w'.cell? ⟨b', 7, none⟩ = some (.int .u16 m.time)) (w2.drew.setRow w.heap.size #[.slice pb (inO m 16).length cb, .slice (some ⟨gr, 0, none⟩) 16384 16384, .slice (some ⟨gc, 0, none⟩) 3072 3072, .int .u8 m.ch, .int .u8 m.pad, .int .u16 m.pitch, .int .u8 m.vol, .int .u16 m.time]) := ⟨cell_of _ b' 0 _ 54 _ h9.blk rfl, cell_of _ b' 1 _ 54 _ h9.blk rfl, cell_of _ b' 2 _ 54 _ h9.blk rfl, cell_of _ b' 3 _ 54 _ h9.blk rfl, cell_of _ b' 4 _ 54 _ h9.blk rfl, cell_of _ b' 5 _ 54 _ h9.blk rfl, cell_of _ b' 6 _ 54 _ h9.blk rfl, cell_of _ b' 7 _ 54 _ h9.blk rfl⟩
  have HF : Hid _ := And.intro hfin (And.intro hRI hBF)
  have HR2 : Hid _ := hr2
  have HS1 : Hid _ := s1
  clear h h9 hfin hRI hBF hB2 hB hr1 hb1 hz1 hc hw1 hr2 hb9 s1 hw hbz
  go_wp2_with fail
  refine wp_region_held_drew (S := (fun w' => w'.cell? ⟨b', 0, none⟩ = some (.slice pb (inO m 16).length cb) ∧ w'.cell? ⟨b', 1, none⟩ = some (.slice (some ⟨gr, 0, none⟩) 16384 16384) ∧ w'.cell? ⟨b', 2, none⟩ = some (.slice (some ⟨gc, 0, none⟩) 3072 3072) ∧ w'.cell? ⟨b', 3, none⟩ = some (.int .u8 m.ch) ∧ w'.cell? ⟨b', 4, none⟩ = some (.int .u8 m.pad) ∧ w'.cell? ⟨b', 5, none⟩ = some (.int .u16 m.pitch) ∧ w'.cell? ⟨b', 6, none⟩ = some (.int .u8 m.vol) ∧ w'.cell? ⟨b', 7, none⟩ = some (.int .u16 m.time))) (by kernel_rfl) s0 (fun hHeld => ?_)
  generalize hWd : w2.drew = Wd at *
  refine wpAnyH_take (i := 0) (v := ?_) rfl (by kernel_rfl) (by kernel_rfl) (by kernel_rfl) (fun c a w h => h) (Or.inl ⟨by rfl, ?_⟩) hHeld ?_
  rotate_left
  · (intro w hSw; (try dsimp only at hSw); go_simp; try with_reducible rfl)
  simp only [Act.put, List.getElem_toArray, List.getElem_cons_zero, List.getElem_cons_succ, List.setIfInBounds_toArray, List.set_cons_zero, List.set_cons_succ]
  refine wpAnyH_take (i := 1) (v := ?_) rfl (by kernel_rfl) (by kernel_rfl) (by kernel_rfl) (fun c a w h => h) (Or.inl ⟨by rfl, ?_⟩) hHeld ?_
  rotate_left
  · (intro w hSw; (try dsimp only at hSw); go_simp; try with_reducible rfl)
  simp only [Act.put, List.getElem_toArray, List.getElem_cons_zero, List.getElem_cons_succ, List.setIfInBounds_toArray, List.set_cons_zero, List.set_cons_succ]
  refine wpAnyH_take (i := 2) (v := ?_) rfl (by kernel_rfl) (by kernel_rfl) (by kernel_rfl) (fun c a w h => h) (Or.inl ⟨by rfl, ?_⟩) hHeld ?_
  rotate_left
  · (intro w hSw; (try dsimp only at hSw); go_simp; try with_reducible rfl)
  simp only [Act.put, List.getElem_toArray, List.getElem_cons_zero, List.getElem_cons_succ, List.setIfInBounds_toArray, List.set_cons_zero, List.set_cons_succ]
  refine wpAnyH_take (i := 3) (v := ?_) rfl (by kernel_rfl) (by kernel_rfl) (by kernel_rfl) (fun c a w h => h) (Or.inl ⟨by rfl, ?_⟩) hHeld ?_
  rotate_left
  · (intro w hSw; (try dsimp only at hSw); go_simp; try with_reducible rfl)
  simp only [Act.put, List.getElem_toArray, List.getElem_cons_zero, List.getElem_cons_succ, List.setIfInBounds_toArray, List.set_cons_zero, List.set_cons_succ]
  refine wpAnyH_take (i := 4) (v := ?_) rfl (by kernel_rfl) (by kernel_rfl) (by kernel_rfl) (fun c a w h => h) (Or.inl ⟨by rfl, ?_⟩) hHeld ?_
  rotate_left
  · (intro w hSw; (try dsimp only at hSw); go_simp; try with_reducible rfl)
  simp only [Act.put, List.getElem_toArray, List.getElem_cons_zero, List.getElem_cons_succ, List.setIfInBounds_toArray, List.set_cons_zero, List.set_cons_succ]
  refine wpAnyH_take (i := 5) (v := ?_) rfl (by kernel_rfl) (by kernel_rfl) (by kernel_rfl) (fun c a w h => h) (Or.inl ⟨by rfl, ?_⟩) hHeld ?_
  rotate_left
  · (intro w hSw; (try dsimp only at hSw); go_simp; try with_reducible rfl)
  simp only [Act.put, List.getElem_toArray, List.getElem_cons_zero, List.getElem_cons_succ, List.setIfInBounds_toArray, List.set_cons_zero, List.set_cons_succ]
  refine wpAnyH_take (i := 6) (v := ?_) rfl (by kernel_rfl) (by kernel_rfl) (by kernel_rfl) (fun c a w h => h) (Or.inl ⟨by rfl, ?_⟩) hHeld ?_
  rotate_left
  · (intro w hSw; (try dsimp only at hSw); go_simp; try with_reducible rfl)
  simp only [Act.put, List.getElem_toArray, List.getElem_cons_zero, List.getElem_cons_succ, List.setIfInBounds_toArray, List.set_cons_zero, List.set_cons_succ]
  refine wpAnyH_take (i := 7) (v := ?_) rfl (by kernel_rfl) (by kernel_rfl) (by kernel_rfl) (fun c a w h => h) (Or.inl ⟨by rfl, ?_⟩) hHeld ?_
  rotate_left
  · (intro w hSw; (try dsimp only at hSw); go_simp; try with_reducible rfl)
  simp only [Act.put, List.getElem_toArray, List.getElem_cons_zero, List.getElem_cons_succ, List.setIfInBounds_toArray, List.set_cons_zero, List.set_cons_succ]
  refine wpAnyH_take (i := 8) (v := ?_) rfl (by kernel_rfl) (by kernel_rfl) (by kernel_rfl) (fun c a w h => h) (Or.inl ⟨by rfl, ?_⟩) hHeld ?_
  rotate_left
  · (intro w hSw; (try dsimp only at hSw); go_simp; try with_reducible rfl)
  simp only [Act.put, List.getElem_toArray, List.getElem_cons_zero, List.getElem_cons_succ, List.setIfInBounds_toArray, List.set_cons_zero, List.set_cons_succ]
  refine wpAnyH_take (i := 9) (v := ?_) rfl (by kernel_rfl) (by kernel_rfl) (by kernel_rfl) (fun c a w h => h) (Or.inl ⟨by rfl, ?_⟩) hHeld ?_
  rotate_left
  · (intro w hSw; (try dsimp only at hSw); go_simp; try with_reducible rfl)
  simp only [Act.put, List.getElem_toArray, List.getElem_cons_zero, List.getElem_cons_succ, List.setIfInBounds_toArray, List.set_cons_zero, List.set_cons_succ]
  refine wpAnyH_take (i := 10) (v := ?_) rfl (by kernel_rfl) (by kernel_rfl) (by kernel_rfl) (fun c a w h => h) (Or.inl ⟨by rfl, ?_⟩) hHeld ?_
  rotate_left
  · (intro w hSw; (try dsimp only at hSw); go_simp; try with_reducible rfl)
  simp only [Act.put, List.getElem_toArray, List.getElem_cons_zero, List.getElem_cons_succ, List.setIfInBounds_toArray, List.set_cons_zero, List.set_cons_succ]
  refine wpAnyH_take (i := 11) (v := ?_) rfl (by kernel_rfl) (by kernel_rfl) (by kernel_rfl) (fun c a w h => h) (Or.inl ⟨by rfl, ?_⟩) hHeld ?_
  rotate_left
  · (intro w hSw; (try dsimp only at hSw); go_simp; try with_reducible rfl)
  simp only [Act.put, List.getElem_toArray, List.getElem_cons_zero, List.getElem_cons_succ, List.setIfInBounds_toArray, List.set_cons_zero, List.set_cons_succ]
  refine wpAnyH_take (i := 12) (v := ?_) rfl (by kernel_rfl) (by kernel_rfl) (by kernel_rfl) (fun c a w h => h) (Or.inl ⟨by rfl, ?_⟩) hHeld ?_
  rotate_left
  · (intro w hSw; (try dsimp only at hSw); go_simp; try with_reducible rfl)
  simp only [Act.put, List.getElem_toArray, List.getElem_cons_zero, List.getElem_cons_succ, List.setIfInBounds_toArray, List.set_cons_zero, List.set_cons_succ]
  refine wpAnyH_take (i := 13) (v := ?_) rfl (by kernel_rfl) (by kernel_rfl) (by kernel_rfl) (fun c a w h => h) (Or.inl ⟨by rfl, ?_⟩) hHeld ?_
  rotate_left
  · (intro w hSw; (try dsimp only at hSw); go_simp; try with_reducible rfl)
  simp only [Act.put, List.getElem_toArray, List.getElem_cons_zero, List.getElem_cons_succ, List.setIfInBounds_toArray, List.set_cons_zero, List.set_cons_succ]
  refine wpAnyH_take (i := 14) (v := ?_) rfl (by kernel_rfl) (by kernel_rfl) (by kernel_rfl) (fun c a w h => h) (Or.inl ⟨by rfl, ?_⟩) hHeld ?_
  rotate_left
  · (intro w hSw; (try dsimp only at hSw); go_simp; try with_reducible rfl)
  simp only [Act.put, List.getElem_toArray, List.getElem_cons_zero, List.getElem_cons_succ, List.setIfInBounds_toArray, List.set_cons_zero, List.set_cons_succ]
  refine wpAnyH_take (i := 15) (v := ?_) rfl (by kernel_rfl) (by kernel_rfl) (by kernel_rfl) (fun c a w h => h) (Or.inl ⟨by rfl, ?_⟩) hHeld ?_
  rotate_left
  · (intro w hSw; (try dsimp only at hSw); go_simp; try with_reducible rfl)
  simp only [Act.put, List.getElem_toArray, List.getElem_cons_zero, List.getElem_cons_succ, List.setIfInBounds_toArray, List.set_cons_zero, List.set_cons_succ]
  refine wpAnyH_take (i := 16) (v := ?_) rfl (by kernel_rfl) (by kernel_rfl) (by kernel_rfl) (fun c a w h => h) (Or.inl ⟨by rfl, ?_⟩) hHeld ?_
  rotate_left
  · (intro w hSw; (try dsimp only at hSw); go_simp; try with_reducible rfl)
  simp only [Act.put, List.getElem_toArray, List.getElem_cons_zero, List.getElem_cons_succ, List.setIfInBounds_toArray, List.set_cons_zero, List.set_cons_succ]
  refine wpAnyH_take (i := 17) (v := ?_) rfl (by kernel_rfl) (by kernel_rfl) (by kernel_rfl) (fun c a w h => h) (Or.inl ⟨by rfl, ?_⟩) hHeld ?_
  rotate_left
  · (intro w hSw; (try dsimp only at hSw); go_simp; try with_reducible rfl)
  simp only [Act.put, List.getElem_toArray, List.getElem_cons_zero, List.getElem_cons_succ, List.setIfInBounds_toArray, List.set_cons_zero, List.set_cons_succ]
  refine wpAnyH_take (i := 18) (v := ?_) rfl (by kernel_rfl) (by kernel_rfl) (by kernel_rfl) (fun c a w h => h) (Or.inl ⟨by rfl, ?_⟩) hHeld ?_
  rotate_left
  · (intro w hSw; (try dsimp only at hSw); go_simp; try with_reducible rfl)
  simp only [Act.put, List.getElem_toArray, List.getElem_cons_zero, List.getElem_cons_succ, List.setIfInBounds_toArray, List.set_cons_zero, List.set_cons_succ]
  refine wpAnyH_take (i := 19) (v := ?_) rfl (by kernel_rfl) (by kernel_rfl) (by kernel_rfl) (fun c a w h => h) (Or.inl ⟨by rfl, ?_⟩) hHeld ?_
  rotate_left
  · (intro w hSw; (try dsimp only at hSw); go_simp; try with_reducible rfl)
  simp only [Act.put, List.getElem_toArray, List.getElem_cons_zero, List.getElem_cons_succ, List.setIfInBounds_toArray, List.set_cons_zero, List.set_cons_succ]
  refine wpAnyH_take (i := 20) (v := ?_) rfl (by kernel_rfl) (by kernel_rfl) (by kernel_rfl) (fun c a w h => h) (Or.inl ⟨by rfl, ?_⟩) hHeld ?_
  rotate_left
  · (intro w hSw; (try dsimp only at hSw); go_simp; try with_reducible rfl)
  simp only [Act.put, List.getElem_toArray, List.getElem_cons_zero, List.getElem_cons_succ, List.setIfInBounds_toArray, List.set_cons_zero, List.set_cons_succ]
  refine wpAnyH_take (i := 21) (v := ?_) rfl (by kernel_rfl) (by kernel_rfl) (by kernel_rfl) (fun c a w h => h) (Or.inl ⟨by rfl, ?_⟩) hHeld ?_
  rotate_left
  · (intro w hSw; (try dsimp only at hSw); go_simp; try with_reducible rfl)
  simp only [Act.put, List.getElem_toArray, List.getElem_cons_zero, List.getElem_cons_succ, List.setIfInBounds_toArray, List.set_cons_zero, List.set_cons_succ]
  refine wpAnyH_take (i := 22) (v := ?_) rfl (by kernel_rfl) (by kernel_rfl) (by kernel_rfl) (fun c a w h => h) (Or.inl ⟨by rfl, ?_⟩) hHeld ?_
  rotate_left
  · (intro w hSw; (try dsimp only at hSw); go_simp; try with_reducible rfl)
  simp only [Act.put, List.getElem_toArray, List.getElem_cons_zero, List.getElem_cons_succ, List.setIfInBounds_toArray, List.set_cons_zero, List.set_cons_succ]
  refine wpAnyH_take (i := 23) (v := ?_) rfl (by kernel_rfl) (by kernel_rfl) (by kernel_rfl) (fun c a w h => h) (Or.inl ⟨by rfl, ?_⟩) hHeld ?_
  rotate_left
  · (intro w hSw; (try dsimp only at hSw); go_simp; try with_reducible rfl)
  simp only [Act.put, List.getElem_toArray, List.getElem_cons_zero, List.getElem_cons_succ, List.setIfInBounds_toArray, List.set_cons_zero, List.set_cons_succ]
  refine wpAnyH_take (i := 24) (v := ?_) rfl (by kernel_rfl) (by kernel_rfl) (by kernel_rfl) (fun c a w h => h) (Or.inl ⟨by rfl, ?_⟩) hHeld ?_
  rotate_left
  · (intro w hSw; (try dsimp only at hSw); go_simp; try with_reducible rfl)
  simp only [Act.put, List.getElem_toArray, List.getElem_cons_zero, List.getElem_cons_succ, List.setIfInBounds_toArray, List.set_cons_zero, List.set_cons_succ]
  refine wpAnyH_take (i := 25) (v := ?_) rfl (by kernel_rfl) (by kernel_rfl) (by kernel_rfl) (fun c a w h => h) (Or.inl ⟨by rfl, ?_⟩) hHeld ?_
  rotate_left
  · (intro w hSw; (try dsimp only at hSw); go_simp; try with_reducible rfl)
  simp only [Act.put, List.getElem_toArray, List.getElem_cons_zero, List.getElem_cons_succ, List.setIfInBounds_toArray, List.set_cons_zero, List.set_cons_succ]
  refine wpAnyH_take (i := 26) (v := ?_) rfl (by kernel_rfl) (by kernel_rfl) (by kernel_rfl) (fun c a w h => h) (Or.inl ⟨by rfl, ?_⟩) hHeld ?_
  rotate_left
  · (intro w hSw; (try dsimp only at hSw); go_simp; try with_reducible rfl)
  simp only [Act.put, List.getElem_toArray, List.getElem_cons_zero, List.getElem_cons_succ, List.setIfInBounds_toArray, List.set_cons_zero, List.set_cons_succ]
  refine wpAnyH_take (i := 27) (v := ?_) rfl (by kernel_rfl) (by kernel_rfl) (by kernel_rfl) (fun c a w h => h) (Or.inl ⟨by rfl, ?_⟩) hHeld ?_
  rotate_left
  · (intro w hSw; (try dsimp only at hSw); go_simp; try with_reducible rfl)
  simp only [Act.put, List.getElem_toArray, List.getElem_cons_zero, List.getElem_cons_succ, List.setIfInBounds_toArray, List.set_cons_zero, List.set_cons_succ]
  refine wpAnyH_take (i := 28) (v := ?_) rfl (by kernel_rfl) (by kernel_rfl) (by kernel_rfl) (fun c a w h => h) (Or.inl ⟨by rfl, ?_⟩) hHeld ?_
  rotate_left
  · (intro w hSw; (try dsimp only at hSw); go_simp; try with_reducible rfl)
  simp only [Act.put, List.getElem_toArray, List.getElem_cons_zero, List.getElem_cons_succ, List.setIfInBounds_toArray, List.set_cons_zero, List.set_cons_succ]
  refine wpAnyH_take (i := 29) (v := ?_) rfl (by kernel_rfl) (by kernel_rfl) (by kernel_rfl) (fun c a w h => h) (Or.inl ⟨by rfl, ?_⟩) hHeld ?_
  rotate_left
  · (intro w hSw; (try dsimp only at hSw); go_simp; try with_reducible rfl)
  simp only [Act.put, List.getElem_toArray, List.getElem_cons_zero, List.getElem_cons_succ, List.setIfInBounds_toArray, List.set_cons_zero, List.set_cons_succ]
  refine wpAnyH_take (i := 30) (v := ?_) rfl (by kernel_rfl) (by kernel_rfl) (by kernel_rfl) (fun c a w h => h) (Or.inl ⟨by rfl, ?_⟩) hHeld ?_
  rotate_left
  · (intro w hSw; (try dsimp only at hSw); go_simp; try with_reducible rfl)
  simp only [Act.put, List.getElem_toArray, List.getElem_cons_zero, List.getElem_cons_succ, List.setIfInBounds_toArray, List.set_cons_zero, List.set_cons_succ]
  refine wpAnyH_take (i := 31) (v := ?_) rfl (by kernel_rfl) (by kernel_rfl) (by kernel_rfl) (fun c a w h => h) (Or.inl ⟨by rfl, ?_⟩) hHeld ?_
  rotate_left
  · (intro w hSw; (try dsimp only at hSw); go_simp; try with_reducible rfl)
  simp only [Act.put, List.getElem_toArray, List.getElem_cons_zero, List.getElem_cons_succ, List.setIfInBounds_toArray, List.set_cons_zero, List.set_cons_succ]
  refine wpAnyH_ready (rs := [32]) (by kernel_rfl) (by simp) ?_
  refine AllReadyH.cons rfl (fun K hK => ?_) AllReadyH.nil
  go_simp
  refine hK.out _ _ s0 (fun hHeld => ?_)
  clear hK K
  refine wpAnyH_ready (rs := [33]) (by kernel_rfl) (by simp) ?_
  refine AllReadyH.cons rfl (fun K hK => ?_) AllReadyH.nil
  refine step_store_row rfl 110 (.tmp 2) (.tmp 38) rfl w.heap.size #[.slice pb (inO m 16).length cb, .slice (some ⟨gr, 0, none⟩) 16384 16384, .slice (some ⟨gc, 0, none⟩) 3072 3072, .int .u8 m.ch, .int .u8 m.pad, .int .u16 m.pitch, .int .u8 m.vol, .int .u16 m.time] (by simp [Act.eval]) (by simp [Act.eval]) 110 z8 HR2.out (by exact sizeIm) (by rfl) (by simp [Value.oneCell']) ?_
  refine hK.out _ _ HS1.out (fun hHeld => ?_)
  clear hK K
  refine wpAnyH_done (by kernel_rfl) ?_ _
  clear hHeld s0 HS1 HR2
  simp only [Act.put, List.setIfInBounds_toArray, List.set_cons_zero, List.set_cons_succ]
  go_wp2
  exact bodyPost_ret (results_cell_row rfl _ _ w.heap.size 110 _ (0, 0) _ rfl HF.out.1 Tryz.underlying110 rfl sizeIm) rfl ⟨pb, cb, gr, gc, rfl, HF.out.2.1, HF.out.2.2⟩
end Go.Proofs.YtgponcjjnjpfkabGreat.M
/-! SameTones. -/
namespace Go.Proofs.YtgponcjjnjpfkabGreat.M
open Go.RowKit
open Go.Proofs
set_option linter.unusedVariables false
set_option linter.unusedSimpArgs false
theorem tc_get : ∀ (l : List (Int × Int × Int)) (k : Nat) (t : Int × Int × Int), l[k]? = some t → (tc l)[k * 3]? = some (.int .i64 t.1) ∧ (tc l)[k * 3 + 1]? = some (.int .u16 t.2.1) ∧ (tc l)[k * 3 + 2]? = some (.int .u8 t.2.2)
  | [], k, t, h => by simp at h
  | a :: l, 0, t, h => by simp at h; subst h; simp [tc, tcell]
  | a :: l, k + 1, t, h => by
    have := tc_get l k t (by simpa using h)
    rw [show (k + 1) * 3 = k * 3 + 3 by omega, show k * 3 + 3 + 1 = k * 3 + 1 + 3 by omega, show k * 3 + 3 + 2 = k * 3 + 2 + 3 by omega]
    simpa [tc, tcell] using this
theorem trow_get {w : World} {B : Nat} {v : Value} {l : List (Int × Int × Int)} (h : TRow w B v l) : ∃ p c, v = .slice p l.length c ∧ ∀ (k : Nat) t, l[k]? = some t → ∃ b o, p = some ⟨b, o, none⟩ ∧ w.cell? ⟨b, o + k * 3, none⟩ = some (.int .i64 t.1) ∧ w.cell? ⟨b, o + k * 3 + 1, none⟩ = some (.int .u16 t.2.1) ∧ w.cell? ⟨b, o + k * 3 + 2, none⟩ = some (.int .u8 t.2.2) := by
  rcases h.2 with ⟨rfl, h0⟩ | ⟨g, cap, cur, rfl, _⟩
  · exact ⟨none, 0, by rw [h0], fun k t hk => by have := (List.getElem?_eq_some_iff.1 hk).1; omega⟩
  · refine ⟨_, cap, rfl, fun k t hk => ?_⟩
    obtain ⟨e1, e2, e3⟩ := tc_get l k t hk
    have c1 := World.ownsRow.cells h (g := g) rfl _ _ e1
    have c2 := World.ownsRow.cells h (g := g) rfl _ _ e2
    have c3 := World.ownsRow.cells h (g := g) rfl _ _ e3
    rw [Addr.add_lit] at c1 c2 c3
    exact ⟨g, 0, rfl, c1, by rw [← Nat.add_assoc] at c2; exact c2, by rw [← Nat.add_assoc] at c3; exact c3⟩
set_option maxHeartbeats 1000000
set_option maxRecDepth 100000
theorem sameTones_any (v v' : Value) (l : List (Int × Int × Int)) (hl : l.length ≤ room) (w : World) {B B' : Nat} (h : TRow w B v l) (h' : TRow w B' v' l) :
    Calls Tryz.prog 42 #[v, v'] w fun e w' => e = .returned (.bool true) ∧ ∃ q, w' = w.drewN q := by
  unfold room at hl
  obtain ⟨p, c, rfl, hc⟩ := trow_get h
  obtain ⟨p', c', rfl, hc'⟩ := trow_get h'
  clear h h'
  go_enter Tryz.func42, Tryz.ntmps42
  go_wp2
  go_loopw [13] (fun i wr => ∃ k q : Nat, k ≤ l.length ∧ i = .int .i64 (k : Int) ∧ wr = w.drewN q) (fun i _ => l.length - (intOf i).toNat)
  case atStart => exact ⟨0, 0, by omega, rfl, rfl⟩
  case round =>
    obtain ⟨k, q, hk, rfl, rfl⟩ := hrel
    by_cases hlt : k < l.length
    · have i1 : (k : Int) < l.length := by omega
      obtain ⟨b, o, rfl, e1, e2, e3⟩ := hc k l[k] (List.getElem?_eq_getElem hlt)
      obtain ⟨b', o', rfl, f1, f2, f3⟩ := hc' k l[k] (List.getElem?_eq_getElem hlt)
      generalize l[k] = t at *
      have g1 : ∀ q, (w.drewN q).cell? ⟨b, o + k * 3, none⟩ = some (.int .i64 t.1) := fun q => e1
      have g2 : ∀ q, (w.drewN q).cell? ⟨b, o + k * 3 + 1, none⟩ = some (.int .u16 t.2.1) := fun q => e2
      have g3 : ∀ q, (w.drewN q).cell? ⟨b, o + k * 3 + 2, none⟩ = some (.int .u8 t.2.2) := fun q => e3
      have g4 : ∀ q, (w.drewN q).cell? ⟨b', o' + k * 3, none⟩ = some (.int .i64 t.1) := fun q => f1
      have g5 : ∀ q, (w.drewN q).cell? ⟨b', o' + k * 3 + 1, none⟩ = some (.int .u16 t.2.1) := fun q => f2
      have g6 : ∀ q, (w.drewN q).cell? ⟨b', o' + k * 3 + 2, none⟩ = some (.int .u8 t.2.2) := fun q => f3
      clear hc hc'
      go_wp2_with fail
      go_quiet (fail)
      go_wp2
      go_roundw
      case rel =>
        first
          | exact ⟨k + 1, _, by omega, by go_num, rfl⟩
          | ((repeat apply Exists.intro); refine ⟨⟨k + 1, _, by omega, ?_, rfl⟩, rfl⟩; go_num)
      case measure => simp [intOf]; omega
    · obtain rfl : k = l.length := by omega
      go_wp2
      go_ret
      exact ⟨rfl, _, rfl⟩
end Go.Proofs.YtgponcjjnjpfkabGreat.M
/-! PrimNone: the law's world is as it was. -/
namespace Go.Proofs.YtgponcjjnjpfkabGreat.L
open Go.RowKit
open Go.Proofs
open P
set_option linter.unusedVariables false
set_option linter.unusedSimpArgs false
set_option maxHeartbeats 2000000
set_option maxRecDepth 100000
section
variable {W W' : World} {B g bd br bm bx bq bz : Nat} {F G : Nat → Prop} {ev qv : Value} {D : List Int} {R : List (Int × Int)} {m : M.MS}
theorem WW.below (h : WW W B g bd br bm bx bq bz F G ev qv D R m) (k : Below W.heap.size W W') : WW W' B g bd br bm bx bq bz F G ev qv D R m :=
  ⟨(k.block _ (S.lt_of h.blk)).trans h.blk, h.p.below k, ⟨(k.block _ (S.lt_of h.x.blk)).trans h.x.blk, S.own_kept h.x.row fun g _ hg => k.block g hg, h.x.hb, h.x.len⟩, ⟨(k.block _ (S.lt_of h.y.blk)).trans h.y.blk, S.own_kept h.y.row fun g _ hg => k.block g hg, h.y.hb, h.y.len⟩, h.z.below k, h.ng, h.nx, h.nq, h.nev, h.nqv, h.nd, h.fg, h.lo, h.lf, h.lg⟩
theorem WW.drew (h : WW W B g bd br bm bx bq bz F G ev qv D R m) : WW W.drew B g bd br bm bx bq bz F G ev qv D R m := h.below ((Below.refl _ _).drew)
theorem WW.c6 (h : WW W B g bd br bm bx bq bz F G ev qv D R m) : W.cell? ⟨g, 0, none⟩ = some (.pointer (some ⟨bd, 0, none⟩)) ∧ W.cell? ⟨g, 1, none⟩ = some (.pointer (some ⟨br, 0, none⟩)) ∧ W.cell? ⟨g, 2, none⟩ = some (.pointer (some ⟨bm, 0, none⟩)) ∧ W.cell? ⟨g, 3, none⟩ = some (.pointer (some ⟨bx, 0, none⟩)) ∧ W.cell? ⟨g, 4, none⟩ = some (.pointer (some ⟨bq, 0, none⟩)) ∧ W.cell? ⟨g, 5, none⟩ = some (.pointer (some ⟨bz, 0, none⟩)) :=
  ⟨S.cell_of W g 0 _ 42 _ h.blk rfl, S.cell_of W g 1 _ 42 _ h.blk rfl, S.cell_of W g 2 _ 42 _ h.blk rfl, S.cell_of W g 3 _ 42 _ h.blk rfl, S.cell_of W g 4 _ 42 _ h.blk rfl, S.cell_of W g 5 _ 42 _ h.blk rfl⟩
theorem ls_at {α : Type} {e : α → List Value} {s : Nat} {W : World} {p : Option Addr} {n c : Nat} {l : List α} (h : S.Ls e s W (.slice p n c) l) : S.Sl e s W p l := by
  obtain ⟨p', c', e', _, h'⟩ := h.ex
  cases e'
  exact h'
theorem bel2 {a b : World} (h : Below W.heap.size W a) (k : Below a.heap.size a b) : Below W.heap.size W b := h.trans (k.mono h.size)
theorem stacks_any (h : WW W B g bd br bm bx bq bz F G ev qv D R m) :
    Calls Tryz.prog 17 #[.pointer (some ⟨g, 0, none⟩)] W fun e w' => e = .returned (.bool true) ∧ Below W.heap.size W w' := by
  obtain ⟨pe, ce, rfl, _, _⟩ := (S.RowU.ls h.x.row).ex
  obtain ⟨pq, cq, rfl, _, _⟩ := (S.RowK.ls h.y.row).ex
  have hlD := h.x.len
  have hlR := h.y.len
  have h1 := S.dcells bd D W.drew h.drew.p.d
  have s0 : W.drew.cell? ⟨g, 0, none⟩ = some (.pointer (some ⟨bd, 0, none⟩)) ∧ W.drew.cell? ⟨g, 1, none⟩ = some (.pointer (some ⟨br, 0, none⟩)) := ⟨h.drew.c6.1, h.drew.c6.2.1⟩
  have HW := S.hid h.drew
  clear h
  go_enter Tryz.func17, Tryz.ntmps17
  go_wp2_with fail
  go_region_held (fun w' => w'.cell? ⟨g, 0, none⟩ = some (.pointer (some ⟨bd, 0, none⟩)) ∧ w'.cell? ⟨g, 1, none⟩ = some (.pointer (some ⟨br, 0, none⟩)))
    (first | (with_reducible exact s0) | (with_reducible exact s1) | (with_reducible exact s2))
    (first
      | (go_at_call 22; refine h1.mono ?_; rintro e w2 ⟨u, rfl, hu, hb2⟩; obtain ⟨pu, cu, rfl, _, _⟩ := (S.RowU.ls hu).ex; have hW2 := HW.out.below hb2; have s1 := And.intro hW2.c6.1 hW2.c6.2.1; have h2 := S.rcells br R w2 hW2.p.r; have H2 := S.hid (And.intro hu hb2); clear h1 hu hb2 hW2 s0)
      | (go_at_call 36; refine h2.mono ?_; rintro e w3 ⟨u3, rfl, hu3, hb3⟩; obtain ⟨pr, cr, rfl, _, _⟩ := (S.RowK.ls hu3).ex; have hW3 := (HW.out.below H2.out.2).below hb3; have s2 := And.intro hW3.c6.1 hW3.c6.2.1; have H3 := S.hid (And.intro hu3 hb3); clear h2 hu3 hb3 hW3 s1))
  have hW3 := (HW.out.below H2.out.2).below H3.out.2
  obtain ⟨c0, c1, c2, c3, c4, c5⟩ := hW3.c6
  have x0 := S.cell_of _ bx 0 _ 78 _ hW3.x.blk rfl
  have hu3 : S.RowU w3 W.drew.heap.size (.slice pu D.length cu) D := S.own_kept H2.out.1 fun g _ hg => H3.out.2.block g hg
  have k3 := S.sameU pu pe cu ce D (by unfold S.room; omega) w3 (ls_at hu3.ls) (ls_at (S.RowU.ls hW3.x.row))
  have HW3 := S.hid hW3
  have HB3 := S.hid (bel2 H2.out.2 H3.out.2)
  clear s2 hW3 hu3
  go_wp2_with fail
  refine k3.mono ?_
  rintro e w4 ⟨rfl, q, hw4⟩
  have hb4 : Below w3.heap.size w3 w4 := by rw [hw4]; exact ⟨rfl, rfl, rfl, Nat.le_refl _, fun _ _ => rfl⟩
  have hW4 := HW3.out.below hb4
  obtain ⟨d0, d1, d2, d3, d4, d5⟩ := hW4.c6
  have y0 := S.cell_of _ bq 0 _ 80 _ hW4.y.blk rfl
  have hr4 : S.RowK w4 w2.heap.size (.slice pr R.length cr) R := S.own_kept H3.out.1 fun g _ hg => hb4.block g hg
  have k4 := S.sameK pr pq cr cq R (by unfold S.room; omega) w4 (ls_at hr4.ls) (ls_at (S.RowK.ls hW4.y.row))
  have HB4 := S.hid (bel2 HB3.out hb4)
  clear k3 hW4 hr4 hb4 hw4 c0 c1 c2 c3 c4 c5 x0
  go_wp2_with fail
  refine k4.mono ?_
  rintro e w5 ⟨rfl, q5, hw5⟩
  have hb5 : Below w4.heap.size w4 w5 := by rw [hw5]; exact ⟨rfl, rfl, rfl, Nat.le_refl _, fun _ _ => rfl⟩
  have HB5 := S.hid (bel2 HB4.out hb5)
  clear k4 hb5 hw5 d0 d1 d2 d3 d4 d5 y0
  go_wp2
  go_ret
  exact ⟨rfl, bel2 ((Below.refl _ W).drew) HB5.out⟩
theorem ImO_forms {W : World} {B : Nat} {u rv sv : Value} {bs : List (Int × List UInt8)} {ram scr : List UInt8} {gs : List (Nat × Nat)} {N1 N2 : Nat} (h : M.ImO W B u rv sv bs ram scr gs N1 N2) (hd : ∀ t ∈ bs, t.2.length ≤ M.room) :
    ∃ p c rp rc sp sc', u = .slice p bs.length c ∧ rv = .slice rp ram.length rc ∧ sv = .slice sp scr.length sc' ∧ M.BnS W p bs ∧ M.Sl W rv ram ∧ M.Sl W sv scr := by
  obtain ⟨p, c, e, hb⟩ := h.banks.ex hd
  obtain ⟨rp, rc, e2⟩ := M.own_form h.ram
  obtain ⟨sp, sc', e3⟩ := M.own_form h.scr
  exact ⟨p, c, rp, rc, sp, sc', e, e2, e3, hb, h.ram.sl, h.scr.sl⟩
end
end Go.Proofs.YtgponcjjnjpfkabGreat.L
/-! Of, Plain; entries of what is no primitive. -/
namespace Go.Proofs.YtgponcjjnjpfkabGreat.P
open Go.RowKit
open Go.Proofs
set_option linter.unusedVariables false
set_option linter.unusedSimpArgs false
set_option maxHeartbeats 1000000
set_option maxRecDepth 100000
def zR : Array Value := #[.int .i64 0, .string { data := #[] }, .int .i64 0, .int .i64 0, .int .i64 0, .bool false]
theorem field0 (W : World) (op : Int) (name : ByteArray) (i o c : Int) (b : Bool) (k bl s : Int) (f : Value) : (Instr.field 117 (.agg #[.int .i64 op, .string name, .int .i64 i, .int .i64 o, .int .i64 c, .bool b, .int .i64 k, .int .i64 bl, .int .i64 s, f]) 0).run Tryz.prog W = .ok (rowV op name i o c b) W := by
  simp [Instr.field, run_underlying Tryz.underlying117, Value.cells, Tryz.sizeOf57, rowV, go_sem, asAgg, part]
theorem field4 (W : World) (op : Int) (name : ByteArray) (i o c : Int) (b : Bool) (k bl s : Int) (f : Value) (hf : f.oneCell' = true) : (Instr.field 117 (.agg #[.int .i64 op, .string name, .int .i64 i, .int .i64 o, .int .i64 c, .bool b, .int .i64 k, .int .i64 bl, .int .i64 s, f]) 4).run Tryz.prog W = .ok f W := by
  simp [Instr.field, run_underlying Tryz.underlying117, Value.cells, Tryz.sizeOf115, go_sem, asAgg, part]
theorem of_yes (op : Int) (name : ByteArray) (i o c : Int) (b : Bool) (k bl s : Int) (f : Value) (h0 : 1 ≤ op) (h1 : op < 64)
    (hE : ∀ w, Calls Tryz.prog 43 #[.int .i64 op] w fun e w' => e = .returned (entV op name i o c b k bl s f) ∧ Below w.heap.size w w') (w : World) :
    Calls Tryz.prog 19 #[.int .i64 op] w fun e w' => e = .returned (.tuple #[rowV op name i o c b, .int .i64 0]) ∧ Below w.heap.size w w' := by
  have e1 : decide (op < 1) = false := decide_eq_false (by omega)
  have e2 : decide (64 ≤ op) = false := decide_eq_false (by omega)
  obtain ⟨wA, hA⟩ : ∃ wA, w.alloc (.cells #[.int .i64 0, .string { data := #[] }, .int .i64 0, .int .i64 0, .int .i64 0, .bool false] 57) = wA := ⟨_, rfl⟩
  have hb : Below w.heap.size w wA := by rw [← hA]; exact (Below.refl _ w).alloc (Nat.le_refl _) _
  have hz : wA.heap[w.heap.size]? = some (.cells zR 57 (0, 0)) := by rw [← hA]; exact heap_alloc_new w _
  have hfd := field0
  unfold rowV at hfd
  go_enter Tryz.func19, Tryz.ntmps19
  go_wp2_with fail
  refine (hE _).mono ?_
  rintro e w1 ⟨rfl, h1⟩
  have hz1 : w1.heap[w.heap.size]? = some (.cells zR 57 (0, 0)) := (h1.block _ (S.lt_of hz)).trans hz
  have hb1 : Below w.heap.size w w1 := hb.trans ⟨h1.os, h1.tape, h1.output, h1.size, fun k hk => h1.block k (Nat.lt_of_lt_of_le hk hb.size)⟩
  have hfin := setRow_heap w1 w.heap.size _ #[.int .i64 op, .string name, .int .i64 i, .int .i64 o, .int .i64 c, .bool b] _ _ hz1
  have hbf := Below.setRow hb1 w.heap.size (Nat.le_refl _) #[.int .i64 op, .string name, .int .i64 i, .int .i64 o, .int .i64 c, .bool b]
  unfold entV
  go_wp2_with (refine wpList_store_row rfl 57 _ _ rfl w.heap.size _ rfl rfl 57 zR hz1 (by exact sizeR) (by rfl) (by simp [Value.oneCell']) ?_)
  refine bodyPost_ret (v := .tuple #[rowV op name i o c b, .int .i64 0]) ?_ rfl ⟨rfl, hbf⟩
  rw [results_cell_tmp rfl]
  simp [asAddr, run_loadVar_row _ w.heap.size _ 57 _ _ _ hfin Tryz.underlying57 rfl sizeR, rowV]
theorem of_no (op : Int) (h : op < 1 ∨ 64 ≤ op) (w : World) :
    Calls Tryz.prog 19 #[.int .i64 op] w fun e w' => e = .returned (.tuple #[rowV 0 ⟨#[]⟩ 0 0 0 false, .int .i64 60]) ∧ Below w.heap.size w w' := by
  by_cases a : op < 1
  · have e1 : decide (op < 1) = true := decide_eq_true a
    go_enter Tryz.func19, Tryz.ntmps19
    go_wp2
    refine bodyPost_ret (v := .tuple #[rowV 0 ⟨#[]⟩ 0 0 0 false, .int .i64 60]) (by simp [results, Tryz.results19, go_sem, rowV]) rfl ⟨rfl, bel_alloc w _⟩
  · have e1 : decide (op < 1) = false := decide_eq_false a
    have e2 : decide (64 ≤ op) = true := decide_eq_true (by omega)
    go_enter Tryz.func19, Tryz.ntmps19
    go_wp2
    refine bodyPost_ret (v := .tuple #[rowV 0 ⟨#[]⟩ 0 0 0 false, .int .i64 60]) (by simp [results, Tryz.results19, go_sem, rowV]) rfl ⟨rfl, bel_alloc w _⟩
theorem neF (W : World) (f : Fn) (a b : Array Value) : (binOp .neq 115 (.func f a b) .nilFunc).run Tryz.prog W = .ok (.bool true) W := by
  have h : ∀ d : Nat, (Op.equalIn (d + 1) 115 (.func f a b) .nilFunc).run Tryz.prog W = .ok false W := fun d => by
    simp [Op.equalIn, run_underlying Tryz.underlying115]
  have h2 : (Op.equal 115 (.func f a b) .nilFunc).run Tryz.prog W = .ok false W := h 9999
  simp [binOp, h2]
theorem neN (W : World) : (binOp .neq 115 .nilFunc .nilFunc).run Tryz.prog W = .ok (.bool false) W := by
  have h : ∀ d : Nat, (Op.equalIn (d + 1) 115 .nilFunc .nilFunc).run Tryz.prog W = .ok true W := fun d => by
    simp [Op.equalIn, run_underlying Tryz.underlying115]
  have h2 : (Op.equal 115 .nilFunc .nilFunc).run Tryz.prog W = .ok true W := h 9999
  simp [binOp, h2]
theorem plain_yes (op : Int) (op' : Int) (name : ByteArray) (i o c : Int) (b : Bool) (k bl s : Int) (g : Nat)
    (hE : ∀ w, Calls Tryz.prog 43 #[.int .i64 op] w fun e w' => e = .returned (entV op' name i o c b k bl s (.func (.func g) #[] #[])) ∧ Below w.heap.size w w') (w : World) :
    Calls Tryz.prog 25 #[.int .i64 op] w fun e w' => e = .returned (.bool true) ∧ Below w.heap.size w w' := by
  have hfd := fun W => field4 W op' name i o c b k bl s (.func (.func g) #[] #[]) rfl
  have hq := neF
  go_enter Tryz.func25, Tryz.ntmps25
  go_wp2_with fail
  refine (hE _).mono ?_
  rintro e w1 ⟨rfl, h1⟩
  unfold entV
  go_wp2
  go_ret
  exact ⟨rfl, h1⟩
theorem plain_no (op : Int) (op' : Int) (name : ByteArray) (i o c : Int) (b : Bool) (k bl s : Int)
    (hE : ∀ w, Calls Tryz.prog 43 #[.int .i64 op] w fun e w' => e = .returned (entV op' name i o c b k bl s .nilFunc) ∧ Below w.heap.size w w') (w : World) :
    Calls Tryz.prog 25 #[.int .i64 op] w fun e w' => e = .returned (.bool false) ∧ Below w.heap.size w w' := by
  have hfd := fun W => field4 W op' name i o c b k bl s .nilFunc rfl
  have hq := neN
  go_enter Tryz.func25, Tryz.ntmps25
  go_wp2_with fail
  refine (hE _).mono ?_
  rintro e w1 ⟨rfl, h1⟩
  unfold entV
  go_wp2
  go_ret
  exact ⟨rfl, h1⟩
/-- Do of what is not plain. -/
theorem do_code (op : Int) (op' : Int) (name : ByteArray) (i o c : Int) (b : Bool) (k bl s : Int)
    (hE : ∀ w, Calls Tryz.prog 43 #[.int .i64 op] w fun e w' => e = .returned (entV op' name i o c b k bl s .nilFunc) ∧ Below w.heap.size w w') (d r m : Option Addr) (w : World) :
    Calls Tryz.prog 21 #[.int .i64 op, .pointer d, .pointer r, .pointer m] w fun e w' => e = .returned (.int .i64 6) ∧ Below w.heap.size w w' := by
  have qN := eqN
  go_enter Tryz.func21, Tryz.ntmps21
  go_wp2_with fail
  refine (hE _).mono ?_
  rintro e w1 ⟨rfl, h1⟩
  unfold entV
  obtain ⟨w2, hw2, hB2, h2⟩ := ent_block w1 op' name i o c b k bl s .nilFunc
  have hb : Below w.heap.size w w2 := h1.trans ⟨h2.os, h2.tape, h2.output, h2.size, fun k hk => h2.block k (Nat.lt_of_lt_of_le hk h1.size)⟩
  have c9 := S.cell_of w2 w1.heap.size 9 _ 117 _ hB2 rfl
  go_wp2_with (refine wpList_store_row rfl 117 _ _ rfl w1.heap.size _ rfl rfl 117 zE (heap_alloc_new w1 _) (by exact sizeE) (by rfl) (by simp [Value.oneCell']) ?_)
  go_ret
  exact ⟨rfl, hb⟩
/-- Do without a stack or a memory. -/
theorem do_none (op : Int) (op' : Int) (name : ByteArray) (i o c : Int) (b : Bool) (k bl s : Int) (g : Nat)
    (hE : ∀ w, Calls Tryz.prog 43 #[.int .i64 op] w fun e w' => e = .returned (entV op' name i o c b k bl s (.func (.func g) #[] #[])) ∧ Below w.heap.size w w') (d r m : Option Addr) (hn : d = none ∨ r = none ∨ m = none) (w : World) :
    Calls Tryz.prog 21 #[.int .i64 op, .pointer d, .pointer r, .pointer m] w fun e w' => e = .returned (.int .i64 6) ∧ Below w.heap.size w w' := by
  have qF := eqF
  go_enter Tryz.func21, Tryz.ntmps21
  go_wp2_with fail
  refine (hE _).mono ?_
  rintro e w1 ⟨rfl, h1⟩
  unfold entV
  obtain ⟨w2, hw2, hB2, h2⟩ := ent_block w1 op' name i o c b k bl s (.func (.func g) #[] #[])
  have hb : Below w.heap.size w w2 := h1.trans ⟨h2.os, h2.tape, h2.output, h2.size, fun k hk => h2.block k (Nat.lt_of_lt_of_le hk h1.size)⟩
  have c9 := S.cell_of w2 w1.heap.size 9 _ 117 _ hB2 rfl
  have HB := S.hid hb
  clear hb h1 h2 hB2
  rcases d with _ | d
  · go_wp2_with (refine wpList_store_row rfl 117 _ _ rfl w1.heap.size _ rfl rfl 117 zE (heap_alloc_new w1 _) (by exact sizeE) (by rfl) (by simp [Value.oneCell']) ?_)
    go_ret
    exact ⟨rfl, HB.out⟩
  rcases r with _ | r
  · go_wp2_with (refine wpList_store_row rfl 117 _ _ rfl w1.heap.size _ rfl rfl 117 zE (heap_alloc_new w1 _) (by exact sizeE) (by rfl) (by simp [Value.oneCell']) ?_)
    go_ret
    exact ⟨rfl, HB.out⟩
  rcases m with _ | m
  · go_wp2_with (refine wpList_store_row rfl 117 _ _ rfl w1.heap.size _ rfl rfl 117 zE (heap_alloc_new w1 _) (by exact sizeE) (by rfl) (by simp [Value.oneCell']) ?_)
    go_ret
    exact ⟨rfl, HB.out⟩
  · rcases hn with hn | hn | hn <;> cases hn
theorem ofc_none (op : Int) (h : op < 1) (w : World) : Calls Tryz.prog 70 #[.int .i64 op] w fun e w' => e = .returned (entV 0 ⟨#[]⟩ 0 0 0 false 0 0 0 .nilFunc) ∧ Below w.heap.size w w' := by
  have e1 : (op == 1) = false := by simpa using (show op ≠ 1 by omega)
  have e2 : (op == 2) = false := by simpa using (show op ≠ 2 by omega)
  have e3 : (op == 3) = false := by simpa using (show op ≠ 3 by omega)
  have e4 : (op == 4) = false := by simpa using (show op ≠ 4 by omega)
  have e5 : (op == 5) = false := by simpa using (show op ≠ 5 by omega)
  have e6 : (op == 6) = false := by simpa using (show op ≠ 6 by omega)
  have e7 : (op == 7) = false := by simpa using (show op ≠ 7 by omega)
  have e8 : (op == 8) = false := by simpa using (show op ≠ 8 by omega)
  have e9 : (op == 9) = false := by simpa using (show op ≠ 9 by omega)
  have e10 : (op == 10) = false := by simpa using (show op ≠ 10 by omega)
  have e11 : (op == 11) = false := by simpa using (show op ≠ 11 by omega)
  obtain ⟨wA, hA, hb, hz⟩ := mk w
  have hm : Made w wA wA := ⟨hb, hz⟩
  go_enter Tryz.func70, Tryz.ntmps70
  go_wp2_with (refine wpList_store_row rfl 117 _ _ rfl w.heap.size _ rfl rfl 117 zE hz (by exact sizeE) (by rfl) (by simp [Value.oneCell']) ?_)
  exact hm.done rfl rfl rfl
theorem ofd_none (op : Int) (h : 64 ≤ op) (w : World) : Calls Tryz.prog 76 #[.int .i64 op] w fun e w' => e = .returned (entV 0 ⟨#[]⟩ 0 0 0 false 0 0 0 .nilFunc) ∧ Below w.heap.size w w' := by
  have e60 : (op == 60) = false := by simpa using (show op ≠ 60 by omega)
  have e61 : (op == 61) = false := by simpa using (show op ≠ 61 by omega)
  have e62 : (op == 62) = false := by simpa using (show op ≠ 62 by omega)
  have e63 : (op == 63) = false := by simpa using (show op ≠ 63 by omega)
  obtain ⟨wA, hA, hb, hz⟩ := mk w
  have hm : Made w wA wA := ⟨hb, hz⟩
  go_enter Tryz.func76, Tryz.ntmps76
  go_wp2_with (refine wpList_store_row rfl 117 _ _ rfl w.heap.size _ rfl rfl 117 zE hz (by exact sizeE) (by rfl) (by simp [Value.oneCell']) ?_)
  exact hm.done rfl rfl rfl
theorem ent_none (op : Int) (h : op < 1 ∨ 64 ≤ op) (w : World) : Calls Tryz.prog 43 #[.int .i64 op] w fun e w' => e = .returned (entV 0 ⟨#[]⟩ 0 0 0 false 0 0 0 .nilFunc) ∧ Below w.heap.size w w' := by
  obtain ⟨wA, hA, hb, hz⟩ := mk w
  by_cases a : op < 1
  · have e1 : decide (op ≤ 11) = true := decide_eq_true (by omega)
    go_enter Tryz.func43, Tryz.ntmps43
    go_wp2_with fail
    refine (ofc_none op a _).mono ?_
    rintro e w1 ⟨rfl, h1⟩
    have hm := Made.of hb hz h1
    unfold entV
    go_wp2_with (refine wpList_store_row rfl 117 _ _ rfl w.heap.size _ rfl rfl 117 zE hm.blk (by exact sizeE) (by rfl) (by simp [Value.oneCell']) ?_)
    exact hm.done rfl rfl rfl
  · have a2 : 64 ≤ op := by omega
    have f11 : decide (op ≤ 11) = false := decide_eq_false (by omega)
    have f20 : decide (op ≤ 20) = false := decide_eq_false (by omega)
    have f35 : decide (op ≤ 35) = false := decide_eq_false (by omega)
    have f49 : decide (op ≤ 49) = false := decide_eq_false (by omega)
    have f54 : decide (op ≤ 54) = false := decide_eq_false (by omega)
    have f59 : decide (op ≤ 59) = false := decide_eq_false (by omega)
    go_enter Tryz.func43, Tryz.ntmps43
    go_wp2_with fail
    refine (ofd_none op a2 _).mono ?_
    rintro e w1 ⟨rfl, h1⟩
    have hm := Made.of hb hz h1
    unfold entV
    go_wp2_with (refine wpList_store_row rfl 117 _ _ rfl w.heap.size _ rfl rfl 117 zE hm.blk (by exact sizeE) (by rfl) (by simp [Value.oneCell']) ?_)
    exact hm.done rfl rfl rfl
end Go.Proofs.YtgponcjjnjpfkabGreat.P
