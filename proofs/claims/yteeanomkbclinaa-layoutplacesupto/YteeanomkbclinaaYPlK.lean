import Derived.Test.YteeanomkbclinaaYWhoP
import Derived.Test.YteeanomkbclinaaYApart
/-! LayoutPlaces: what its walk carries. -/
namespace Go.Proofs.Yteeanomkbclinaa.Y
open Go.RowKit
open Go.Proofs
set_option linter.unusedVariables false
set_option linter.unusedSimpArgs false
/-- An answer: places, bytes of code, bytes of variables, where, which error. -/
structure An where
  l : List Pl
  c : Int
  r : Int
  p : Ps
  e : Int
def AN (ds : List Df) (A : An) : Prop :=
  ((∀ j, j < ds.length → ps (rms ds (j + 1)) = 0) ∧ A = ⟨pls ds ds.length, (rms ds ds.length).2.1, (rms ds ds.length).2.2, (0, 0), 0⟩) ∨
  ∃ (k : Nat) (d : Df), ds[k]? = some d ∧ (∀ j, j < k → ps (rms ds (j + 1)) = 0) ∧ ps (rms ds (k + 1)) ≠ 0 ∧ A = ⟨[], 0, 0, d.p, ps (rms ds (k + 1))⟩
theorem AN.uniq {ds : List Df} {A B : An} (h : AN ds A) (k : AN ds B) : A = B := by
  rcases h with ⟨h1, rfl⟩ | ⟨i, d, hi, h1, h2, rfl⟩ <;> rcases k with ⟨k1, rfl⟩ | ⟨j, e, hj, k1, k2, rfl⟩
  · rfl
  · exact absurd (h1 j (List.getElem?_eq_some_iff.1 hj).1) k2
  · exact absurd (k1 i (List.getElem?_eq_some_iff.1 hi).1) h2
  · have : i = j := by
      apply Decidable.byContradiction
      intro hne
      rcases Nat.lt_or_gt_of_ne hne with h | h
      · exact h2 (k1 i h)
      · exact k2 (h1 j h)
    subst this
    rw [hi] at hj
    cases hj
    rfl
theorem AN.len {ds : List Df} {A : An} (h : AN ds A) (hl : ds.length ≤ 1048576) : A.l.length ≤ 512 := by
  rcases h with ⟨h1, rfl⟩ | ⟨i, d, hi, h1, h2, rfl⟩
  · show (pls ds ds.length).length ≤ 512
    rw [pls_len ds _ (Nat.le_refl _)]
    by_cases h0 : ds.length = 0
    · omega
    · have h2 := h1 (ds.length - 1) (by omega)
      rw [Nat.sub_add_cancel (by omega)] at h2
      have h3 := (ps_words h2).1
      rw [rms_one ds _ (Nat.le_refl _) (by omega)] at h3
      omega
  · exact Nat.zero_le _
theorem of_an (ds : List Df) (dv bkv : Value) (hbk : ∃ p l c, bkv = .slice p l c) (O : Nat → Prop) (W : World) (hO : ∀ i, O i → i < W.heap.size) (hD : DV W O dv ds) :
    Calls Try.prog 8 #[.agg #[dv, bkv]] W fun e w' => ∃ (A : An) (p : Option Addr) (c : Nat), AN ds A ∧ e = .returned (.tuple #[.slice p A.l.length c, .int .i64 A.c, .int .i64 A.r, .agg #[.int .i64 A.p.1, .int .i64 A.p.2], .int .i64 A.e]) ∧ w'.ownsRow W.heap.size 40 4 (.slice p A.l.length c) A.l.length (S.en plc A.l) ∧ Below W.heap.size W w' := by
  refine (of_any ds dv bkv hbk O W hO hD).mono ?_
  rintro e w' ⟨hR, hb⟩
  rcases hR with ⟨v, hf, rfl, ho⟩ | ⟨k, d, hk, hf, hn, rfl⟩
  · obtain ⟨p, c, rfl⟩ := own_is ho
    have hpl := pls_len ds ds.length (Nat.le_refl _)
    refine ⟨⟨pls ds ds.length, (rms ds ds.length).2.1, (rms ds ds.length).2.2, (0, 0), 0⟩, p, c, .inl ⟨hf, rfl⟩, ?_, ?_, hb⟩
    · show _ = Ending.returned (.tuple #[.slice p (pls ds ds.length).length c, _, _, _, _])
      rw [hpl]
    · show w'.ownsRow _ _ _ (.slice p (pls ds ds.length).length c) (pls ds ds.length).length _
      rw [hpl]; exact ho
  · exact ⟨⟨[], 0, 0, d.p, ps (rms ds (k + 1))⟩, none, 0, .inr ⟨k, d, hk, hf, hn, rfl⟩, rfl, World.ownsRow_nil _ _ _ _, hb⟩
theorem rof_an (ds : List Df) (dv bkv : Value) (hbk : ∃ p l c, bkv = .slice p l c) (O : Nat → Prop) (W : World) (hO : ∀ i, O i → i < W.heap.size) (hD : DV W O dv ds) :
    Calls Try.prog 12 #[.agg #[dv, bkv]] W fun e w' => ∃ (A : An) (p : Option Addr) (c : Nat), AN ds A ∧ e = .returned (.tuple #[.slice p A.l.length c, .int .i64 A.c, .int .i64 A.r, .agg #[.int .i64 A.p.1, .int .i64 A.p.2], .int .i64 A.e]) ∧ w'.ownsRow W.heap.size 66 4 (.slice p A.l.length c) A.l.length (S.en plc A.l) ∧ Below W.heap.size W w' := by
  refine (rof_any ds dv bkv hbk O W hO hD).mono ?_
  rintro e w' ⟨hR, hb⟩
  rcases hR with ⟨v, hf, rfl, ho⟩ | ⟨k, d, hk, hf, hn, rfl⟩
  · obtain ⟨p, c, rfl⟩ := own_is ho
    have hpl := pls_len ds ds.length (Nat.le_refl _)
    refine ⟨⟨pls ds ds.length, (rms ds ds.length).2.1, (rms ds ds.length).2.2, (0, 0), 0⟩, p, c, .inl ⟨hf, rfl⟩, ?_, ?_, hb⟩
    · show _ = Ending.returned (.tuple #[.slice p (pls ds ds.length).length c, _, _, _, _])
      rw [hpl]
    · show w'.ownsRow _ _ _ (.slice p (pls ds ds.length).length c) (pls ds ds.length).length _
      rw [hpl]; exact ho
  · exact ⟨⟨[], 0, 0, d.p, ps (rms ds (k + 1))⟩, none, 0, .inr ⟨k, d, hk, hf, hn, rfl⟩, rfl, World.ownsRow_nil _ _ _ _, hb⟩
theorem QD.dv {W : World} {U : Nat → Prop} {b c : Nat} {ds : List Df} (h : QD W U b c ds) {O : Nat → Prop} (hb : O b) (m : ∀ i, U i → O i) : DV W O (.slice (some ⟨b, 0, none⟩) ds.length c) ds := by
  refine ⟨_, c, rfl, by have := h.len; omega, fun i d hi => ?_⟩
  obtain ⟨bv, h1, h2⟩ := h.d i d hi
  exact ⟨b, 0, rfl, hb, bv, fun j x hx => by rw [Nat.zero_add]; exact h1 j x hx, h2.nv.kept (fun _ _ => rfl) m⟩
/-- Another kind. -/
def flip (d : Df) : Df := { d with k := wrap64 (4 - d.k) }
def part (ds : List Df) (i : Nat) : List Df := (ds.take i).map flip ++ ds.drop i
theorem part_len (ds : List Df) (i : Nat) : (part ds i).length = ds.length := by
  unfold part; rw [List.length_append, List.length_map, List.length_take, List.length_drop]; omega
theorem part_zero (ds : List Df) : part ds 0 = ds := rfl
theorem part_at (ds : List Df) (i : Nat) (d : Df) (h : ds[i]? = some d) : (part ds i)[i]? = some d := by
  have hi := (List.getElem?_eq_some_iff.1 h).1
  unfold part
  rw [List.getElem?_append_right (by rw [List.length_map, List.length_take]; omega), List.length_map, List.length_take, List.getElem?_drop, show i + (i - min i ds.length) = i by omega]
  exact h
theorem part_succ (ds : List Df) (i : Nat) (d : Df) (h : ds[i]? = some d) : (part ds i).set i (flip d) = part ds (i + 1) := by
  have hi := (List.getElem?_eq_some_iff.1 h).1
  have hd : ds.drop i = d :: ds.drop (i + 1) := by
    rw [List.drop_eq_getElem_cons hi]
    congr 1
    exact (List.getElem?_eq_some_iff.1 h).2
  have hl : ((ds.take i).map flip).length = i := by rw [List.length_map, List.length_take]; omega
  unfold part
  rw [List.set_append_right _ _ (by omega), hl, Nat.sub_self, hd, List.set_cons_zero, List.take_add_one, h]
  simp
theorem QD.set {W : World} {U : Nat → Prop} {b c : Nat} {ds : List Df} (h : QD W U b c ds) (hU : ¬ U b) (i : Nat) (d : Df) (hd : ds[i]? = some d) (z : Int) : QD (W.setCell ⟨b, i * 6, none⟩ (.int .i64 z)) U b c (ds.set i { d with k := z }) := by
  obtain ⟨cur, hcur⟩ := h.blk
  have hi := (List.getElem?_eq_some_iff.1 hd).1
  have hn := S.setCell_heap W b (i * 6) cur 36 (.int .i64 z) hcur
  have hlt : i * 6 < cur.length := by
    obtain ⟨bv, h1, _⟩ := h.d i d hd
    have e := h1 0 _ rfl
    rw [Nat.add_zero] at e
    simp only [World.cell?, hcur] at e
    have := (Array.getElem?_eq_some_iff.1 e).1
    simpa using this
  have cl : ∀ (q : Nat) (u : Value), q ≠ i * 6 → W.cell? ⟨b, q, none⟩ = some u → (W.setCell ⟨b, i * 6, none⟩ (.int .i64 z)).cell? ⟨b, q, none⟩ = some u := fun q u hq hu => by
    refine S.cell_of _ b q _ 36 u hn ?_
    simp only [World.cell?, hcur] at hu
    rw [List.getElem?_set_ne (Ne.symm hq)]
    simpa using hu
  have hot : ∀ g, U g → (W.setCell ⟨b, i * 6, none⟩ (.int .i64 z)).heap[g]? = W.heap[g]? := fun g hg => S.setCell_other _ _ _ _ _ (fun e => hU (e ▸ hg))
  refine ⟨by rw [List.length_set]; exact h.cap, by rw [List.length_set]; exact h.len, by rw [List.length_set]; exact cl _ _ (by omega) h.mrk, ⟨_, hn⟩, fun j e hj => ?_⟩
  by_cases hji : i = j
  · subst hji
    rw [List.getElem?_set_self hi] at hj
    cases hj
    obtain ⟨bv, h1, h2⟩ := h.d i d hd
    refine ⟨bv, fun q x hx => ?_, h2.kept hot fun _ h => h⟩
    by_cases h0 : q = 0
    · subst h0
      cases hx
      rw [Nat.add_zero]
      exact S.cell_of _ b _ _ 36 _ hn (by rw [List.getElem?_set_self hlt])
    · refine cl _ _ (by omega) (h1 q x ?_)
      match q, hx, h0 with
      | q + 1, hx, _ => exact hx
  · rw [List.getElem?_set_ne hji] at hj
    obtain ⟨bv, h1, h2⟩ := h.d j e hj
    refine ⟨bv, fun q x hx => cl _ _ ?_ (h1 q x hx), h2.kept hot fun _ h => h⟩
    have : q < 6 := by have := (List.getElem?_eq_some_iff.1 hx).1; simpa [dfc] using this
    omega
/-- What the law's walk carries: the boxes, the program of one's own. -/
structure LQ (W w : World) (U K : Nat → Prop) (b c g3 : Nat) (dv bkv bkq : Value) (ds' : List Df) (bs : List Bk) : Prop where
  bel : Below W.heap.size W w
  b0 : w.heap[W.heap.size]? = some (.cells [dv, bkv].toArray 32 (0, 0))
  q : QD w U b c ds'
  u : ∀ i, U i → W.heap.size < i ∧ i < w.heap.size ∧ i ≠ b
  kb : ∀ i, K i → W.heap.size < i ∧ i < w.heap.size ∧ i ≠ b
  k : BV w K bkq bs
  bb : W.heap.size < b ∧ b < w.heap.size ∧ b ≠ g3
  g : w.heap[g3]? = some (.cells [.slice (some ⟨b, 0, none⟩) ds'.length c, bkq].toArray 32 (0, 0))
theorem LQ.next {W w w' : World} {U K : Nat → Prop} {b c g3 : Nat} {dv bkv bkq : Value} {ds' : List Df} {bs : List Bk} (h : LQ W w U K b c g3 dv bkv bkq ds' bs) (k : Below w.heap.size w w') : LQ W w' U K b c g3 dv bkv bkq ds' bs :=
  ⟨h.bel.trans (k.mono h.bel.size), (k.block _ (S.lt_of h.b0)).trans h.b0, h.q.kept (k.block b h.bb.2.1) (fun i hi => k.block i (h.u i hi).2.1) (fun _ h => h), fun i hi => ⟨(h.u i hi).1, Nat.lt_of_lt_of_le (h.u i hi).2.1 k.size, (h.u i hi).2.2⟩, fun i hi => ⟨(h.kb i hi).1, Nat.lt_of_lt_of_le (h.kb i hi).2.1 k.size, (h.kb i hi).2.2⟩, h.k.below k (fun i hi => (h.kb i hi).2.1), ⟨h.bb.1, Nat.lt_of_lt_of_le h.bb.2.1 k.size, h.bb.2.2⟩, (k.block _ (S.lt_of h.g)).trans h.g⟩
theorem LQ.under {W w w' : World} {U K : Nat → Prop} {b c g3 B : Nat} {dv bkv bkq : Value} {ds' : List Df} {bs : List Bk} (h : LQ W w U K b c g3 dv bkv bkq ds' bs) (k : Below B w w') (hW : W.heap.size < B) (hU : ∀ i, U i → i < B) (hK : ∀ i, K i → i < B) (hb : b < B) (hg : g3 < B) : LQ W w' U K b c g3 dv bkv bkq ds' bs :=
  ⟨h.bel.trans (k.mono (by omega)), (k.block _ hW).trans h.b0, h.q.kept (k.block b hb) (fun i hi => k.block i (hU i hi)) (fun _ h => h), fun i hi => ⟨(h.u i hi).1, Nat.lt_of_lt_of_le (h.u i hi).2.1 k.size, (h.u i hi).2.2⟩, fun i hi => ⟨(h.kb i hi).1, Nat.lt_of_lt_of_le (h.kb i hi).2.1 k.size, (h.kb i hi).2.2⟩, h.k.kept (fun i hi => k.block i (hK i hi)) (fun _ h => h), ⟨h.bb.1, Nat.lt_of_lt_of_le h.bb.2.1 k.size, h.bb.2.2⟩, (k.block _ hg).trans h.g⟩
/-- Worlds that differ in one block alone. -/
structure KL (w w' : World) (b : Nat) : Prop where
  os : w'.os = w.os
  tape : w'.tape = w.tape
  output : w'.output = w.output
  sz : w'.heap.size = w.heap.size
  blk : ∀ i, i ≠ b → w'.heap[i]? = w.heap[i]?
theorem KL.refl (w : World) (b : Nat) : KL w w b := ⟨rfl, rfl, rfl, rfl, fun _ _ => rfl⟩
theorem KL.drew {w w' : World} {b : Nat} (h : KL w w' b) : KL w w'.drew b := ⟨h.os, h.tape, h.output, h.sz, h.blk⟩
theorem KL.set {w w' : World} {b : Nat} (h : KL w w' b) (i : Nat) (v : Value) : KL w (w'.setCell ⟨b, i, none⟩ v) b := ⟨h.os, h.tape, h.output, by rw [S.setCell_size]; exact h.sz, fun j hj => (S.setCell_other _ _ _ _ _ hj).trans (h.blk j hj)⟩
theorem KL.row (w : World) (b : Nat) (cs : Array Value) : KL w (w.setRow b cs) b := ⟨rfl, rfl, rfl, by rw [size_setRow], fun j hj => setRow_other _ _ j _ hj⟩
theorem KL.below {w w' : World} {b : Nat} (h : KL w w' b) : Below b w w' := ⟨h.os, h.tape, h.output, Nat.le_of_eq h.sz.symm, fun i hi => h.blk i (by omega)⟩
theorem LQ.turned {W w w' : World} {U K : Nat → Prop} {b c g3 : Nat} {dv bkv bkq : Value} {ds' ds2 : List Df} {bs : List Bk} (h : LQ W w U K b c g3 dv bkv bkq ds' bs) (k : KL w w' b) (hq : QD w' U b c ds2) (hl : ds2.length = ds'.length) : LQ W w' U K b c g3 dv bkv bkq ds2 bs := by
  have hs := k.sz
  have hbb := h.bb
  refine ⟨h.bel.trans (k.below.mono (by omega)), (k.blk _ (by omega)).trans h.b0, hq, fun i hi => ?_, fun i hi => ?_, h.k.kept (fun i hi => k.blk i (h.kb i hi).2.2) (fun _ h => h), by omega, ?_⟩
  · have := h.u i hi; exact ⟨this.1, by omega, this.2.2⟩
  · have := h.kb i hi; exact ⟨this.1, by omega, this.2.2⟩
  · rw [hl]; exact (k.blk _ (Ne.symm hbb.2.2)).trans h.g
def pick3 {α : Type} (a b c : α) : Nat → α
  | 0 => a
  | 1 => b
  | _ => c
theorem LQ.dv {W w : World} {U K : Nat → Prop} {b c g3 : Nat} {dv bkv bkq : Value} {ds' : List Df} {bs : List Bk} (h : LQ W w U K b c g3 dv bkv bkq ds' bs) : DV w (· < w.heap.size) (.slice (some ⟨b, 0, none⟩) ds'.length c) ds' := h.q.dv h.bb.2.1 fun i hi => (h.u i hi).2.1
theorem own_ls {W : World} {B : Nat} {t : TypeId} {p : Option Addr} {c : Nat} {l : List Pl} (h : W.ownsRow B t 4 (.slice p l.length c) l.length (S.en plc l)) : S.Ls plc 4 W (.slice p l.length c) l := S.own_sl hPl h
end Go.Proofs.Yteeanomkbclinaa.Y
