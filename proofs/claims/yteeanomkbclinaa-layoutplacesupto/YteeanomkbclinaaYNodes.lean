import Derived.Test.YteeanomkbclinaaYFixed
/-! Rows of nodes; LayoutSizes' function literal. -/
namespace Go.Proofs.Yteeanomkbclinaa.Y
open Go.RowKit
open Go.Proofs
set_option linter.unusedVariables false
set_option linter.unusedSimpArgs false
set_option maxHeartbeats 4000000
set_option maxRecDepth 100000
/-- The cells of nodes, one behind the other, with lists that lie in O. -/
def NC (W : World) (O : Nat → Prop) : List Nd → List Value → Prop
  | [], cs => cs = []
  | n :: r, cs => ∃ tv ev cs', cs = ndc n tv ev ++ cs' ∧ NV W O tv n.th ∧ NV W O ev n.el ∧ NC W O r cs'
theorem ndc_len (n : Nd) (tv ev : Value) : (ndc n tv ev).length = 9 := rfl
theorem NV.slice {W : World} {O : Nat → Prop} {v : Value} {l : List Nd} (h : NV W O v l) : ∃ p m c, v = .slice p m c := by
  obtain ⟨p, c, rfl, _⟩ := h.ex
  exact ⟨_, _, _, rfl⟩
theorem NC.len {W : World} {O : Nat → Prop} : ∀ {l : List Nd} {cs : List Value}, NC W O l cs → cs.length = l.length * 9
  | [], cs, h => by rw [NC] at h; subst h; rfl
  | n :: r, cs, h => by
    rw [NC] at h
    obtain ⟨tv, ev, cs', rfl, _, _, h'⟩ := h
    rw [List.length_append, ndc_len, NC.len h', List.length_cons]; omega
theorem NC.one {W : World} {O : Nat → Prop} : ∀ {l : List Nd} {cs : List Value}, NC W O l cs → ∀ u ∈ cs, u.oneCell' = true
  | [], cs, h => by rw [NC] at h; subst h; intro u hu; simp at hu
  | n :: r, cs, h => by
    rw [NC] at h
    obtain ⟨tv, ev, cs', rfl, ht, he, h'⟩ := h
    obtain ⟨p1, m1, c1, rfl⟩ := ht.slice
    obtain ⟨p2, m2, c2, rfl⟩ := he.slice
    intro u hu
    rcases List.mem_append.1 hu with hu | hu
    · simp [ndc] at hu
      rcases hu with rfl | rfl | rfl | rfl | rfl | rfl | rfl | rfl | rfl <;> rfl
    · exact NC.one h' u hu
theorem NC.app {W : World} {O : Nat → Prop} : ∀ {l l' : List Nd} {cs cs' : List Value}, NC W O l cs → NC W O l' cs' → NC W O (l ++ l') (cs ++ cs')
  | [], l', cs, cs', h, h' => by rw [NC] at h; subst h; exact h'
  | n :: r, l', cs, cs', h, h' => by
    rw [NC] at h
    obtain ⟨tv, ev, c2, rfl, ht, he, h2⟩ := h
    rw [List.cons_append, NC]
    exact ⟨tv, ev, c2 ++ cs', by rw [List.append_assoc], ht, he, NC.app h2 h'⟩
theorem NC.kept {W W' : World} {O O' : Nat → Prop} (k : ∀ i, O i → W'.heap[i]? = W.heap[i]?) (m : ∀ i, O i → O' i) : ∀ {l : List Nd} {cs : List Value}, NC W O l cs → NC W' O' l cs
  | [], cs, h => by rw [NC] at h ⊢; exact h
  | n :: r, cs, h => by
    rw [NC] at h ⊢
    obtain ⟨tv, ev, c2, rfl, ht, he, h2⟩ := h
    exact ⟨tv, ev, c2, rfl, ht.kept k m, he.kept k m, NC.kept k m h2⟩
theorem NA.nc {W : World} {O : Nat → Prop} {b : Nat} : ∀ {l : List Nd} {o : Nat}, NA W O b o l → ∃ cs, NC W O l cs ∧ ∀ (j : Nat) u, cs[j]? = some u → W.cell? ⟨b, o + j, none⟩ = some u
  | [], o, h => ⟨[], by rw [NC], fun j u hj => by simp at hj⟩
  | n :: r, o, h => by
    obtain ⟨tv, ev, hc, ht, he⟩ := h.head.ex
    obtain ⟨cs, h1, h2⟩ := NA.nc h.tail
    refine ⟨ndc n tv ev ++ cs, by rw [NC]; exact ⟨tv, ev, cs, rfl, ht, he, h1⟩, fun j u hj => ?_⟩
    by_cases hlt : j < 9
    · rw [List.getElem?_append_left (by rw [ndc_len]; exact hlt)] at hj
      exact hc j u hj
    · rw [List.getElem?_append_right (by rw [ndc_len]; omega), ndc_len] at hj
      have := h2 (j - 9) u hj
      rw [show o + 9 + (j - 9) = o + j by omega] at this
      exact this
theorem NC.na {W : World} {O : Nat → Prop} {b : Nat} : ∀ {l : List Nd} {o : Nat} {cs : List Value}, NC W O l cs → (∀ (j : Nat) u, cs[j]? = some u → W.cell? ⟨b, o + j, none⟩ = some u) → NA W O b o l
  | [], o, cs, _, _ => NA.nil _ _ _ _
  | n :: r, o, cs, h, hc => by
    rw [NC] at h
    obtain ⟨tv, ev, c2, rfl, ht, he, h2⟩ := h
    refine NA.cons (N1.mk tv ev (fun j x hx => hc j x (by rw [List.getElem?_append_left (List.getElem?_eq_some_iff.1 hx).1]; exact hx)) ht he) (NC.na h2 fun j u hj => ?_)
    have := hc (9 + j) u (by rw [List.getElem?_append_right (by rw [ndc_len]; omega), ndc_len, Nat.add_sub_cancel_left]; exact hj)
    rw [show o + 9 + j = o + (9 + j) by omega]
    exact this
theorem NV.nc {W : World} {O : Nat → Prop} {v : Value} {l : List Nd} (h : NV W O v l) : ∃ cs, NC W O l cs ∧ S.Cs W v 9 l.length cs := by
  rcases h.cases with ⟨rfl | ⟨a, c, rfl⟩, rfl⟩ | ⟨b, o, c, rfl, _, _, hA⟩
  · exact ⟨[], by rw [NC], .inl ⟨rfl, rfl, rfl⟩⟩
  · exact ⟨[], by rw [NC], .inr ⟨a, c, rfl, rfl, fun j u hj => by simp at hj, fun u hu => by simp at hu⟩⟩
  · obtain ⟨cs, h1, h2⟩ := hA.nc
    exact ⟨cs, h1, .inr ⟨⟨b, o, none⟩, c, rfl, h1.len, fun j u hj => by rw [Addr.add_lit]; exact h2 j u hj, h1.one⟩⟩
/-- A row of one's own, of nodes. -/
theorem own_nv {W : World} {O : Nat → Prop} {B : Nat} {v : Value} {l : List Nd} {cs : List Value} (h : W.ownsRow B 38 9 v l.length cs) (hc : NC W O l cs) (hl : l.length ≤ 140737488355328) (hO : ∀ g, v.ownBlock = some g → O g) : NV W O v l := by
  rcases h.2 with ⟨rfl, e⟩ | ⟨g, cap, cur, rfl, h2, h3⟩
  · obtain rfl := List.eq_nil_of_length_eq_zero e
    exact NV.nil (.inl rfl)
  · refine NV.row (hO g rfl) hl (hc.na fun j u hj => ?_)
    have := World.ownsRow.cells h (g := g) rfl j u hj
    rw [Addr.add_lit] at this
    exact this
theorem infoNd : (Try.prog.info? 38).map (fun i => (i.zero, i.size, i.bytes)) = some (some (.agg #[.int .i64 0, .int .i64 0, .int .u16 0, .string ⟨#[]⟩, .slice none 0 0, .slice none 0 0, .bool false, .int .i64 0, .int .i64 0]), 9, 112) := by kernel_rfl
theorem one_any (n : Nd) (tv ev : Value) (O : Nat → Prop) (W : World) (hO : ∀ i, O i → i < W.heap.size) (ht : NV W O tv n.th) (he : NV W O ev n.el) :
    Calls Try.prog 10 #[.agg (ndc n tv ev).toArray] W fun e w' => e = .returned (.int .i64 (wrap64 (2 * ce n))) ∧ Below W.heap.size W w' := by
  obtain ⟨q1, d1, rfl, _, _⟩ := ht.ex
  obtain ⟨q2, d2, rfl, _, _⟩ := he.ex
  obtain ⟨w2, hw2⟩ : ∃ w2, w2 = (W.alloc (.cells (ndc n (.slice q1 n.th.length d1) (.slice q2 n.el.length d2)).toArray 38)).alloc (.cells (ndc n (.slice q1 n.th.length d1) (.slice q2 n.el.length d2)).toArray 38) := ⟨_, rfl⟩
  have b2 : Below W.heap.size W w2 := by rw [hw2]; exact ((Below.refl _ W).alloc (Nat.le_refl _) _).alloc (by simp) _
  have s2 : w2.heap.size = W.heap.size + 2 := by rw [hw2]; simp
  have q2 : w2.heap[W.heap.size + 1]? = some (.cells (ndc n (.slice q1 n.th.length d1) (.slice q2 n.el.length d2)).toArray 38 (0, 0)) := by rw [hw2]; exact heap_alloc2_new W _ _
  have nv : NV w2 (fun i => i < w2.heap.size) (.slice (some ⟨W.heap.size + 1, 0, none⟩) 1 1) [n] := by
    refine NV.row (l := [n]) (by show W.heap.size + 1 < w2.heap.size; omega) (by simp) (NA.cons (n1_of q2 rfl (ht.kept (fun i hi => b2.block i (hO i hi)) fun i hi => ?_) (he.kept (fun i hi => b2.block i (hO i hi)) fun i hi => ?_)) (NA.nil _ _ _ _))
    · exact Nat.lt_of_lt_of_le (hO i hi) b2.size
    · exact Nat.lt_of_lt_of_le (hO i hi) b2.size
  have hsz := size_any [n] _ _ w2 (fun _ h => h) nv
  have e1 : cl [n] = ce n := by rw [cl_cons, cl_nil]; omega
  rw [e1] at hsz
  have HB := hid b2
  unfold ndc at hw2
  have HW := hid hw2
  clear b2 s2 q2 nv ht he hO hw2
  unfold ndc
  go_enter Try.func10, Try.ntmps10
  go_wp2_with fail
  rw [← HW.out]
  refine hsz.mono ?_
  rintro e w3 ⟨rfl, hb⟩
  have HB3 := hid hb
  clear hb hsz
  go_wp2
  go_ret
  exact ⟨rfl, HB.out.trans (HB3.out.mono HB.out.size)⟩
end Go.Proofs.Yteeanomkbclinaa.Y
