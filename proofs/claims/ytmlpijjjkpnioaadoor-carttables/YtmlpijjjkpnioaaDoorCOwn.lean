import Derived.Test.YtmlpijjjkpnioaaDoorCCatch
import Derived.Deep.RegionHeldLaw
/-! A cartridge in memory of its own. -/
namespace Go.Proofs.YtmlpijjjkpnioaaDoor.C
open Go.RowKit
open Go.Proofs
open Go.Proofs.YtmlpijjjkpnioaaDoor.K
set_option linter.unusedVariables false
set_option linter.unusedSimpArgs false
theorem info82 : (Tryd.prog.info? 82).map (fun i => (i.zero, i.size, i.bytes)) = some (some (.agg #[.int .i64 0, .slice none 0 0]), 2, 32) := by kernel_rfl
def bcs : List (Bk × Value) → List Value
  | [] => []
  | x :: l => .int .i64 x.1.1 :: x.2 :: bcs l
theorem bcs_len : ∀ l : List (Bk × Value), (bcs l).length = l.length * 2
  | [] => rfl
  | x :: l => by simp [bcs, bcs_len l]; omega
theorem bcs_append : ∀ a b : List (Bk × Value), bcs (a ++ b) = bcs a ++ bcs b
  | [], b => rfl
  | x :: a, b => by simp [bcs, bcs_append a b]
theorem bcs_get : ∀ (l : List (Bk × Value)) (i : Nat) (x : Bk × Value), l[i]? = some x → (bcs l)[i * 2]? = some (.int .i64 x.1.1) ∧ (bcs l)[i * 2 + 1]? = some x.2
  | y :: l, 0, x, h => by simp at h; subst h; exact ⟨rfl, rfl⟩
  | y :: l, i + 1, x, h => by
    have := bcs_get l i x (by simpa using h)
    simp only [bcs]
    rw [show (i + 1) * 2 = i * 2 + 1 + 1 by omega]
    exact this
/-- Two values in blocks that are not one. -/
def Apt (a b : Value) : Prop := ∀ x, a.ownBlock = some x → b.ownBlock ≠ some x
structure OwC (W : World) (B : Nat) (v : Value) (c : Ct) (kv ev bv : Value) (prs : List (Bk × Value)) : Prop where
  val : v = .agg #[kv, .int .u16 (c.entry : Int), ev, bv]
  code : Row W B kv c.code
  effs : W.ownsRow B 80 3 ev c.effs.length (t3 (c.effs.map encE))
  banks : W.ownsRow B 82 2 bv prs.length (bcs prs)
  map : prs.map Prod.fst = c.banks
  dat : ∀ x ∈ prs, Row W B x.2 x.1.2
  nd : (kv :: prs.map Prod.snd).Pairwise Apt
theorem OwC.kept {W W' : World} {B : Nat} {v : Value} {c : Ct} {kv ev bv : Value} {prs : List (Bk × Value)} (h : OwC W B v c kv ev bv prs) (k : ∀ g, B ≤ g → g < W.heap.size → W'.heap[g]? = W.heap[g]?) : OwC W' B v c kv ev bv prs :=
  ⟨h.val, h.code.kept fun g e hg => k g (h.code.lt g e).1 hg, own_kept h.effs fun g e hg => k g (h.effs.lt g e).1 hg, own_kept h.banks fun g e hg => k g (h.banks.lt g e).1 hg, h.map, fun x hx => (h.dat x hx).kept fun g e hg => k g ((h.dat x hx).lt g e).1 hg, h.nd⟩
theorem OwC.below {W W' : World} {B : Nat} {v : Value} {c : Ct} {kv ev bv : Value} {prs : List (Bk × Value)} (h : OwC W B v c kv ev bv prs) (b : Below W.heap.size W W') : OwC W' B v c kv ev bv prs := h.kept fun g _ hg => b.block g hg
theorem OwC.zero (W : World) (B : Nat) : OwC W B (.agg #[.slice none 0 0, .int .u16 0, .slice none 0 0, .slice none 0 0]) ct0 (.slice none 0 0) (.slice none 0 0) (.slice none 0 0) [] :=
  ⟨rfl, row_nil _ _, World.ownsRow_nil _ _ _ _, World.ownsRow_nil _ _ _ _, rfl, fun x hx => by simp at hx, by simp⟩
/-- What the cartridge's numbers are. -/
structure Ints (c : Ct) : Prop where
  fit : Fit c
  clen : c.code.length ≤ room
  elen : c.effs.length * 24 ≤ room
  blen : c.banks.length * 32 ≤ room
  dlen : ∀ x ∈ c.banks, x.2.length ≤ room
  ints : ∀ x ∈ c.effs, (Lit.int .i64 x.2.1).wf = true ∧ (Lit.int .i64 x.2.2).wf = true
  nums : ∀ x ∈ c.banks, (Lit.int .i64 x.1).wf = true
theorem may_ints {c : Ct} (h : may c = true) (hf : Fit c) : Ints c := by
  obtain ⟨h1, h2, h3⟩ := may_parts h
  have hb := may_many h
  simp only [codeB, decide_eq_true_eq] at h1
  simp only [effsB, Bool.and_eq_true, decide_eq_true_eq] at h2
  have hh := eff_heights c.effs _ h2.2
  have hd := bank_dts c.banks (-1) h3
  refine ⟨hf, by unfold room; omega, by unfold room; omega, by unfold room; omega, ?_, ?_, ?_⟩
  · intro x hx
    simp only [dts, List.all_eq_true, List.mem_map] at hd
    have h4 : x.2.length ≤ 16384 := by have := hd (bsec x) ⟨x, hx, rfl⟩; simp only [bsec, datOk] at this; exact of_decide_eq_true this
    unfold room; omega
  · intro x hx
    obtain ⟨a, b⟩ := hh x hx
    rw [hgt_iff] at a b
    constructor
    · simp [Lit.wf, IntKind.min, IntKind.max, IntKind.bits, IntKind.signed]; omega
    · simp [Lit.wf, IntKind.min, IntKind.max, IntKind.bits, IntKind.signed]; omega
  · intro x hx
    obtain ⟨k, hk, rfl⟩ := List.mem_iff_getElem.1 hx
    have := bank_at c.banks (-1) (by omega) h3 k hk
    simp [Lit.wf, IntKind.min, IntKind.max, IntKind.bits, IntKind.signed]; omega
theorem OwC.isC {W : World} {B : Nat} {v : Value} {c : Ct} {kv ev bv : Value} {prs : List (Bk × Value)} (h : OwC W B v c kv ev bv prs) (hi : Ints c) : ∃ ep ec bp bc, IsC W v c ep ec bp bc kv := by
  have he : ∃ ep ec, ev = .slice ep c.effs.length ec ∧ EfS W ep c.effs := by
    rcases h.effs.2 with ⟨e, e0⟩ | ⟨g, cap, cur, e, _⟩
    · have : c.effs = [] := List.eq_nil_of_length_eq_zero e0
      exact ⟨none, 0, by rw [e, this]; rfl, by rw [this]; intro i t ht; simp at ht⟩
    · refine ⟨_, cap, e, fun i t ht => ?_⟩
      obtain ⟨k1, k2, k3⟩ := t3_get (c.effs.map encE) i (encE t) (by rw [List.getElem?_map, ht]; rfl)
      have c1 := World.ownsRow.cells h.effs (g := g) (by rw [e]; rfl) _ _ k1
      have c2 := World.ownsRow.cells h.effs (g := g) (by rw [e]; rfl) _ _ k2
      have c3 := World.ownsRow.cells h.effs (g := g) (by rw [e]; rfl) _ _ k3
      rw [Addr.add_lit] at c1 c2 c3
      exact ⟨g, 0, rfl, c1, c2, c3⟩
  have hb : ∃ bp bc, bv = .slice bp c.banks.length bc ∧ BnS W bp c.banks := by
    have hl : prs.length = c.banks.length := by rw [← h.map]; simp
    rcases h.banks.2 with ⟨e, e0⟩ | ⟨g, cap, cur, e, _⟩
    · have : c.banks = [] := List.eq_nil_of_length_eq_zero (by omega)
      exact ⟨none, 0, by rw [e, this]; rfl, by rw [this]; intro i t ht; simp at ht⟩
    · refine ⟨_, cap, by rw [← hl]; exact e, fun i t ht => ?_⟩
      rw [← h.map, List.getElem?_map, Option.map_eq_some_iff] at ht
      obtain ⟨x, hx, rfl⟩ := ht
      obtain ⟨k1, k2⟩ := bcs_get prs i x hx
      have c1 := World.ownsRow.cells h.banks (g := g) (by rw [e]; rfl) _ _ k1
      have c2 := World.ownsRow.cells h.banks (g := g) (by rw [e]; rfl) _ _ k2
      rw [Addr.add_lit] at c1 c2
      have hm := List.mem_of_getElem? hx
      exact ⟨g, 0, x.2, rfl, c1, c2, (h.dat x hm).sl, hi.dlen x.1 (by rw [← h.map]; exact List.mem_map_of_mem hm)⟩
  obtain ⟨ep, ec, rfl, he⟩ := he
  obtain ⟨bp, bc, rfl, hb⟩ := hb
  exact ⟨ep, ec, bp, bc, h.val, h.code.sl, hi.clen, he, hi.elen, hb, hi.blen, hi.fit, hi.ints, hi.nums⟩
theorem slice_from2 (W : World) (g n : Nat) (hn : 2 ≤ n) : (Instr.sliceAt 75 (.slice (some ⟨g, 0, none⟩) n n) (some (.int .i64 2)) none none).run Tryd.prog W = .ok (.slice (if n = 2 then some ⟨g, 0, none⟩ else some ⟨g, 6, none⟩) (n - 2) (n - 2)) W := by
  have el : Tryd.prog.underlying 75 = some (.slice (Tryd.prog.elem 75)) := by kernel_rfl
  have sz : (sizeOf (Tryd.prog.elem 75)).run Tryd.prog W = .ok 3 W := by
    have e : Tryd.prog.elem 75 = 96 := by kernel_rfl
    rw [e]
    simp [sizeOf]
    rfl
  rw [run_sliceAt_slice W 75 _ _ _ _ el, run_slice_l W 75 (some ⟨g, 0, none⟩) n n el .i64 2 (by omega) (by omega), sz]
  simp [Result.andThen, sliced, Addr.add]
end Go.Proofs.YtmlpijjjkpnioaaDoor.C
