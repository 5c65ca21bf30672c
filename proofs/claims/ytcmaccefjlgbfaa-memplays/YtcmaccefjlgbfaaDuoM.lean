import Derived.Test.YtcmaccefjlgbfaaDuo
import Derived.Test.YtcmaccefjlgbfaaRestMath
/-! A step of the pair: what Restore wants. -/
namespace Go.Proofs.Ytcmaccefjlgbfaa
open Go.RowKit
open Go.Proofs
set_option linter.unusedVariables false
set_option linter.unusedSimpArgs false
theorem may_pw : ∀ (bs : List (Int × List UInt8)) (last : Int), (∀ t ∈ bs, last < t.1 ∧ t.1 < 16 ∧ t.2.length ≤ 16384) → bs.Pairwise (fun a b => a.1 < b.1) → mayB last bs = true
  | [], _, _, _ => rfl
  | t :: r, last, h, hp => by
    have h0 := h t (List.mem_cons_self ..)
    rw [List.pairwise_cons] at hp
    have ih := may_pw r t.1 (fun u hu => ⟨hp.1 u hu, (h u (List.mem_cons_of_mem _ hu)).2⟩) hp.2
    rw [mayB, if_neg (by omega)]
    exact ih
theorem inO_lt (m : MS) (k : Nat) (t : Int × List UInt8) (h : t ∈ inO m k) : ∃ n : Nat, t.1 = (n : Int) ∧ n < k ∧ m.banks n = some t.2 := by
  obtain ⟨n, hn⟩ := inO_fst m k t h
  have : ((n : Int), t.2) ∈ inO m k := by rw [← hn]; exact h
  have e := (inO_mem m n t.2 k).1 this
  exact ⟨n, hn, e.1, e.2⟩
theorem inO_pw (m : MS) : ∀ k, (inO m k).Pairwise (fun a b => a.1 < b.1)
  | 0 => by simp [inO]
  | k + 1 => by
    have ih := inO_pw m k
    cases hb : m.banks k with
    | none => rw [inO_none m k hb]; exact ih
    | some x =>
      rw [inO_some m k x hb, List.pairwise_append]
      refine ⟨ih, by simp, fun a ha b hb' => ?_⟩
      obtain ⟨n, hn, hlt, _⟩ := inO_lt m k a ha
      simp at hb'
      subst hb'
      simp only
      omega
theorem inO_may (m : MS) (hw : Wf m) : mayB (-1) (inO m 16) = true := by
  refine may_pw _ _ (fun t ht => ?_) (inO_pw m 16)
  obtain ⟨n, hn, hlt, hb⟩ := inO_lt m 16 t ht
  have := (hw.bk n _ hb).2
  omega
theorem inO_wh (m : MS) (hw : Wf m) : whB (inO m 16) m.ram m.scr m.ch = true := by
  have h1 : allF (inO m 16) = true := by
    rw [allF, List.all_eq_true]
    intro t ht
    have := inO_full m hw 16 t ht
    simpa using this
  simp [whB, h1, hw.ram, hw.scr, hw.ch1]
theorem nbk_inO (m : MS) (hw : Wf m) : nbk (inO m 16) = m.banks := by
  funext n
  unfold nbk
  cases hf : (inO m 16).find? (fun t => t.1 == (n : Int)) with
  | none =>
    cases hb : m.banks n with
    | none => rfl
    | some l =>
      exfalso
      rw [List.find?_eq_none] at hf
      have := hf ((n : Int), l) ((inO_mem m n l 16).2 ⟨(hw.bk n l hb).1, hb⟩)
      simp at this
  | some t =>
    have h1 := List.mem_of_find?_eq_some hf
    have h2 := List.find?_some hf
    obtain ⟨k, hk, _, hb⟩ := inO_lt m 16 t h1
    have e : k = n := by simp at h2; omega
    subst e
    have hl := (hw.bk k _ hb).2
    rw [hb]
    simp only [Option.map_some, Option.some.injEq]
    rw [pad, hl]; simp
/-- A memory as its image gives it back. -/
def rs (m : MS) : MS := { m with cyc := 0, tones := [] }
theorem mR_rs (m : MS) (hw : Wf m) : mR (inO m 16) m.ram m.scr m = rs m := by
  unfold mR rs
  rw [nbk_inO m hw]
theorem rs_wf (m : MS) (hw : Wf m) : Wf (rs m) := ⟨hw.ram, hw.scr, hw.ch0, hw.ch1, hw.pad0, hw.pad1, hw.pitch0, hw.pitch1, hw.vol0, hw.vol1, hw.time0, hw.time1, hw.bk⟩
theorem rs_is {W : World} {F : Nat → Prop} {b : Nat} {m : MS} (hw : Wf m) (h : HasR W F b (padB (inO m 16)) { m with ram := padN 16384 m.ram, scr := padN 3072 m.scr, cyc := 0, tones := [] }) : IsR W F b (rs m) := by
  rw [padB_full _ (inO_full m hw 16), padN_full _ _ hw.ram, padN_full _ _ hw.scr] at h
  exact ⟨rs_wf m hw, h⟩
theorem Duo.newM2 {W : World} {B p : Nat} {c mb rb : Nat → Nat} {s q : Nat → MS} (h : Duo W B p c mb rb s q) (i : Nat) (hi : i < 2) {N M b : Nat} {m' : MS} (hc : ∀ k, N ≤ k → k < M → c k = 0) (hp : p < N) (k : HasM W (fun k => N ≤ k ∧ k < M) b m') :
    Duo (W.setCell ⟨p, i, none⟩ (ptr b)) B p (fun k => if N ≤ k ∧ k < M then 1 + i else c k) (up mb i b) rb (up s i m') q := by
  have o : ∀ j, j ≠ p → (W.setCell ⟨p, i, none⟩ (ptr b)).heap[j]? = W.heap[j]? := fun j hj => setCell_other _ _ _ _ _ hj
  have hbp := h.bp
  have hcc : ∀ j e, e ≠ 0 → c j = e → j ≠ p ∧ ¬ (N ≤ j ∧ j < M) := fun j e he hj => ⟨fun f => he (hj.symm.trans (f ▸ h.pc)), fun f => he (hj.symm.trans (hc j f.1 f.2))⟩
  refine ⟨fun j hj => ?_, fun j hj => ?_, ?_, ?_, h.bp, fun j hj => ?_⟩
  · by_cases e : j = i
    · subst e; rw [up_at, up_at]
      exact (k.kept fun j' _ f => o j' (by omega)).mono fun j' _ f => if_pos f
    · rw [up_ne _ _ _ _ e, up_ne _ _ _ _ e]
      refine ((h.a j hj).kept fun j' _ f => o j' (hcc j' _ (by omega) f).1).mono fun j' _ f => ?_
      rw [if_neg (hcc j' _ (by omega) f).2]; exact f
  · refine ((h.b j hj).kept fun j' _ f => o j' (hcc j' _ (by omega) f).1).mono fun j' _ f => ?_
    rw [if_neg (hcc j' _ (by omega) f).2]; exact f
  · rw [setCell_heap W p i _ 73 _ h.pb, pcells_m _ _ _ _ hi]
  · rw [if_neg (by omega)]; exact h.pc
  · rw [if_neg (by omega)]; exact h.lo j hj
theorem Duo.newR2 {W : World} {B p : Nat} {c mb rb : Nat → Nat} {s q : Nat → MS} (h : Duo W B p c mb rb s q) (i : Nat) (hi : i < 2) {N M b : Nat} {m' : MS} (hc : ∀ k, N ≤ k → k < M → c k = 0) (hp : p < N) (k : IsR W (fun k => N ≤ k ∧ k < M) b m') :
    Duo (W.setCell ⟨p, 2 + i, none⟩ (ptr b)) B p (fun k => if N ≤ k ∧ k < M then 3 + i else c k) mb (up rb i b) s (up q i m') := by
  have o : ∀ j, j ≠ p → (W.setCell ⟨p, 2 + i, none⟩ (ptr b)).heap[j]? = W.heap[j]? := fun j hj => setCell_other _ _ _ _ _ hj
  have hbp := h.bp
  have hcc : ∀ j e, e ≠ 0 → c j = e → j ≠ p ∧ ¬ (N ≤ j ∧ j < M) := fun j e he hj => ⟨fun f => he (hj.symm.trans (f ▸ h.pc)), fun f => he (hj.symm.trans (hc j f.1 f.2))⟩
  refine ⟨fun j hj => ?_, fun j hj => ?_, ?_, ?_, h.bp, fun j hj => ?_⟩
  · refine ((h.a j hj).kept fun j' _ f => o j' (hcc j' _ (by omega) f).1).mono fun j' _ f => ?_
    rw [if_neg (hcc j' _ (by omega) f).2]; exact f
  · by_cases e : j = i
    · subst e; rw [up_at, up_at]
      exact (k.kept fun j' _ f => o j' (by omega)).mono fun j' _ f => if_pos f
    · rw [up_ne _ _ _ _ e, up_ne _ _ _ _ e]
      refine ((h.b j hj).kept fun j' _ f => o j' (hcc j' _ (by omega) f).1).mono fun j' _ f => ?_
      rw [if_neg (hcc j' _ (by omega) f).2]; exact f
  · rw [setCell_heap W p (2 + i) _ 73 _ h.pb, pcells_r _ _ _ _ hi]
  · rw [if_neg (by omega)]; exact h.pc
  · rw [if_neg (by omega)]; exact h.lo j hj
/-- Blocks of no color may change. -/
theorem Duo.frame0 {W W' : World} {B p : Nat} {c mb rb : Nat → Nat} {s q : Nat → MS} (h : Duo W B p c mb rb s q) (t : ∀ k, k < W.heap.size → c k ≠ 0 ∨ k = p → W'.heap[k]? = W.heap[k]?) : Duo W' B p c mb rb s q :=
  ⟨fun i hi => (h.a i hi).kept fun j hj f => t j hj (.inl (by have f' : c j = 1 + i := f; omega)), fun i hi => (h.b i hi).kept fun j hj f => t j hj (.inl (by have f' : c j = 3 + i := f; omega)), (t p (lt_of h.pb) (.inr rfl)).trans h.pb, h.pc, h.bp, h.lo⟩
end Go.Proofs.Ytcmaccefjlgbfaa
