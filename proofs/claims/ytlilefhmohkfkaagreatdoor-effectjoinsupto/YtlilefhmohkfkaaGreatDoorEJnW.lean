import Derived.Test.YtlilefhmohkfkaaGreatDoorEJnM
/-! Two words one behind the other. -/
namespace Go.Proofs.YtlilefhmohkfkaaGreatDoor.E
open Go.Proofs.YtlilefhmohkfkaaGreatDoor.Y (Nd Df Ps)
open R (cks ck)
set_option linter.unusedVariables false
set_option linter.unusedSimpArgs false
set_option maxHeartbeats 1000000
/-! ### A fault has a number -/
def Ez (f : X → Re) : Prop := ∀ x e, f x = .error e → e.1 ≠ 0
theorem grow_ez {w : Wk} {i d r : Int} {p : Ps} {e : Er} (h : grow w i d r p = .error e) : e.1 ≠ 0 := by
  unfold grow at h
  split at h
  · cases h
  · cases h; simp
theorem step_ez (a b : Int) (p : Ps) : Ez fun x => step x a b p := by
  intro x e h
  simp only [step] at h
  split at h
  · rename_i e' hg; cases h; exact grow_ez hg
  · cases h
theorem put_ez (p : Ps) (ks : List UInt8) : Ez fun x => put x p ks := by
  intro x e h
  simp only [put] at h
  split at h
  · rename_i e' hg; cases h; exact grow_ez hg
  · cases h
theorem prim_ez (op : Int) (p : Ps) : Ez (prim op p) := by
  intro x e h
  unfold prim at h
  split at h
  · cases h; simp
  split at h
  · rename_i e' hg; cases h; exact step_ez _ _ _ x _ hg
  split at h
  · exact put_ez _ _ _ _ h
  split at h
  · cases h
  split at h <;> cases h
theorem call_ez (t : Option Ty) (p : Ps) : Ez (call t p) := by
  intro x e h
  cases t with
  | none => exact step_ez 0 1 p x e h
  | some t =>
    simp only [call] at h
    split at h
    · split at h
      · rename_i e' hg; cases h; exact grow_ez hg
      · cases h
    · rename_i hn; cases h; exact hn
theorem leave_ez {s : St} {p : Ps} {w : Wk} {e : Er} (h : leave s p w = .error e) : e.1 ≠ 0 := by
  unfold leave at h
  split at h
  · split at h
    · cases h
    · cases h; simp
  · cases h; simp
theorem back_ez {a b : St} {p : Ps} {e : Er} (h : back a b p = .error e) : e.1 ≠ 0 := by
  unfold back at h
  split at h
  · cases h
  · cases h; simp
theorem run_ez : ∀ (fs : List (X → Re)), (∀ f ∈ fs, Ez f) → Ez (run fs)
  | [], _ => fun x e h => by rw [run] at h; cases h
  | f :: r, hf => fun x e h => by
    rw [run] at h
    split at h
    · cases h
    · split at h
      · rename_i e' hg; cases h; exact hf f (by simp) x _ hg
      · exact run_ez r (fun g hg => hf g (by simp [hg])) _ _ h
theorem nodeB_ez (kn : ByteArray → Option Ty) (k op : Int) (nm : ByteArray) (p : Ps) {th el : X → Re} (h1 : Ez th) (h2 : Ez el) : Ez (nodeB kn k op nm p th el) := by
  intro x e h
  unfold nodeB at h
  split at h
  · exact prim_ez _ _ _ _ h
  split at h
  · exact step_ez _ _ _ _ _ h
  split at h
  · exact call_ez _ _ _ _ h
  split at h
  · unfold choice at h
    split at h
    · rename_i e' hg; cases h; exact step_ez _ _ _ _ _ hg
    split at h
    · rename_i e' hg; cases h; exact h1 _ _ hg
    split at h
    · rename_i e' hg; cases h; exact h2 _ _ hg
    split at h
    · cases h
    split at h
    · cases h
    · cases h; simp
  split at h
  · unfold until_ at h
    split at h
    · rename_i e' hg; cases h; exact h1 _ _ hg
    split at h
    · cases h
    split at h
    · rename_i e' hg; cases h; exact step_ez _ _ _ _ _ hg
    split at h
    · rename_i e' hg; cases h; exact back_ez hg
    · cases h
  split at h
  · unfold while_ at h
    split at h
    · rename_i e' hg; cases h; exact h1 _ _ hg
    split at h
    · cases h
    split at h
    · rename_i e' hg; cases h; exact step_ez _ _ _ _ _ hg
    split at h
    · rename_i e' hg; cases h; exact h2 _ _ hg
    split at h
    · rename_i e' hg; cases h; exact back_ez hg
    · cases h
  split at h
  · unfold again at h
    split at h
    · rename_i e' hg; cases h; exact h1 _ _ hg
    split at h
    · rename_i e' hg; cases h; exact back_ez hg
    · cases h
  split at h
  · unfold do_ at h
    split at h
    · rename_i e' hg; cases h; exact step_ez _ _ _ _ _ hg
    split at h
    · rename_i e' hg; cases h; exact put_ez _ _ _ _ hg
    split at h
    · rename_i e' hg; cases h; exact h1 _ _ hg
    split at h
    · rename_i e' hg; cases h; exact back_ez hg
    · cases h
  split at h
  · rename_i e' hg; cases h; exact leave_ez hg
  · cases h
theorem node_ez (kn : ByteArray → Option Ty) (n : Nd) : Ez (node kn n) :=
  Nd.ind (P := fun n => Ez (node kn n)) (fun n h1 h2 => by
    rw [node_is]
    refine nodeB_ez kn _ _ _ _ (run_ez _ ?_) (run_ez _ ?_)
    · intro f hf
      obtain ⟨m, hm, rfl⟩ := List.mem_map.1 hf
      exact h1 m hm
    · intro f hf
      obtain ⟨m, hm, rfl⟩ := List.mem_map.1 hf
      exact h2 m hm) n
theorem body_ez (kn : ByteArray → Option Ty) (l : List Nd) : Ez (body kn l) := run_ez _ fun f hf => by
  obtain ⟨m, hm, rfl⟩ := List.mem_map.1 hf
  exact node_ez kn m
theorem word_ez (kn : ByteArray → Option Ty) (d : Df) (e : Er) (h : word kn d = .error e) : e.1 ≠ 0 := by
  unfold word at h
  split at h
  · rename_i e' hg; cases h; exact body_ez _ _ _ _ hg
  split at h
  · rename_i x hx e' hg
    cases h
    split at hg
    · cases hg
    · exact leave_ez hg
  split at h
  · cases h
  · cases h; simp
/-! ### Words -/
theorem tyOf_congr {kn kn' : ByteArray → Option Ty} (d : Df) (h : body kn d.body = body kn' d.body) : tyOf kn d = tyOf kn' d := by unfold tyOf word; rw [h]
theorem word_parts (kn : ByteArray → Option Ty) (d : Df) (names : List ByteArray) (hk : ∀ s t, kn s = some t → TD t ∧ TI t) (hc : cks names d.body (0, false) = 0) (hv : lvs d.body = false) (he : (tyOf kn d).e = 0) (hn : (tyOf kn d).nv = false) :
    ∃ x : X, body kn d.body (w0, s0) = .ok x ∧ x.2.dead = false ∧ x.2.own = [] ∧ Dn x ∧ XI x ∧ x.1.nv = true ∧ x.1.lf = 0 ∧ x.1.i + x.2.h ≤ 256 ∧ tyOf kn d = ⟨d.nm, x.1.i, x.1.i + x.2.h, x.1.d, x.1.r, false, 0, (0, 0)⟩ := by
  cases hw : word kn d with
  | error e =>
    have := word_ez kn d e hw
    unfold tyOf at he
    rw [hw] at he
    exact (this he).elim
  | ok w =>
    have ht : tyOf kn d = ⟨d.nm, w.i, if w.nv then 0 else w.i + w.lf, w.d, w.r, w.nv, 0, (0, 0)⟩ := by unfold tyOf; rw [hw]
    rw [ht] at hn
    simp only at hn
    have hp := body_pc kn (fun s t e => (hk s t e).1) names d.body _ hc hv
    unfold word at hw
    cases hb : body kn d.body (w0, s0) with
    | error e => rw [hb] at hw; cases hw
    | ok x =>
      rw [hb] at hw
      simp only at hw
      have hle := hp.le _ _ hb
      have hdn := hp.dn _ _ ⟨Int.le_refl _, Int.le_refl _, fun _ => Int.le_refl _⟩ rfl hb
      have hxi := (body_inv kn (fun s t e => (hk s t e).2) d.body _ _ xi_start hb).1
      have hxn : x.1.nv = true := hle.2.2.2.1.symm
      have hxl : x.1.lf = 0 := hle.2.2.2.2.symm
      cases hd : x.2.dead with
      | true =>
        rw [hd] at hw
        simp only [if_true] at hw
        split at hw
        · cases hw; rw [hxn] at hn; cases hn
        · cases hw
      | false =>
        rw [hd] at hw
        simp only [Bool.false_eq_true, if_false] at hw
        unfold leave at hw
        by_cases ho : x.2.own = []
        · rw [if_pos ho, if_pos (Or.inl hxn)] at hw
          simp only at hw
          split at hw
          · rename_i hcc
            cases hw
            refine ⟨x, rfl, hd, ho, hdn, hxi, hxn, hxl, ?_, ht⟩
            rcases hcc with hcc | hcc
            · cases hcc
            · exact hcc
          · cases hw
        · rw [if_neg ho] at hw
          cases hw
/-- Is it this shape, or, beyond the limits, ErrDepth? -/
def jn (t : Ty) (i o d r : Int) : Prop := if 256 < i ∨ 256 < o ∨ 256 < d ∨ 128 < r then t.e = 153 else t.e = 0 ∧ t.i = i ∧ t.o = o ∧ t.d = d ∧ t.r = r ∧ t.nv = false
theorem word_of (kn : ByteArray → Option Ty) (d : Df) (x : X) (hb : body kn d.body (w0, s0) = .ok x) (hd : x.2.dead = false) (ho : x.2.own = []) (hn : x.1.nv = true) (h1 : x.1.i ≤ 256) (h2 : x.1.d ≤ 256) (h3 : x.1.r ≤ 128) : jn (tyOf kn d) x.1.i (x.1.i + x.2.h) x.1.d x.1.r := by
  have hw : word kn d = if x.1.i + x.2.h ≤ 256 then .ok { x.1 with nv := false, lf := x.2.h } else .error (153, d.p) := by
    unfold word
    rw [hb]
    simp only
    rw [hd]
    simp only [Bool.false_eq_true, if_false]
    unfold leave
    rw [if_pos ho, if_pos (Or.inl hn)]
    simp only [Bool.false_eq_true, false_or]
  unfold jn tyOf
  rw [hw]
  by_cases hc : x.1.i + x.2.h ≤ 256
  · rw [if_pos hc, if_neg (by omega)]
    simp
  · rw [if_neg hc, if_pos (by omega)]
theorem tyOf_err (kn : ByteArray → Option Ty) (d : Df) (p : Ps) (hb : body kn d.body (w0, s0) = .error (153, p)) : (tyOf kn d).e = 153 := by
  unfold tyOf word
  rw [hb]
theorem cc_jn (kn : ByteArray → Option Ty) (hk : ∀ s t, kn s = some t → TD t ∧ TI t) (dA dB dC : Df) (nA nB : List ByteArray) (hC : dC.body = dA.body ++ dB.body) (cA : cks nA dA.body (0, false) = 0) (cB : cks nB dB.body (0, false) = 0) (vA : lvs dA.body = false) (vB : lvs dB.body = false)
    (x y : Ty) (ex : tyOf kn dA = x) (ey : tyOf kn dB = y) (ea : x.e = 0) (na : x.nv = false) (eb : y.e = 0) (nb : y.nv = false) :
    jn (tyOf kn dC) (max x.i (y.i - (x.o - x.i))) (max x.i (y.i - (x.o - x.i)) + (x.o - x.i) + y.o - y.i) (max x.d (x.o - x.i + y.d)) (max x.r y.r) := by
  obtain ⟨a, a1, a2, a3, a4, a5, a6, a7, a8, a9⟩ := word_parts kn dA nA hk cA vA (by rw [ex]; exact ea) (by rw [ex]; exact na)
  obtain ⟨b, b1, b2, b3, b4, b5, b6, b7, b8, b9⟩ := word_parts kn dB nB hk cB vB (by rw [ey]; exact eb) (by rw [ey]; exact nb)
  rw [ex] at a9
  rw [ey] at b9
  subst a9 b9
  simp only
  have hp := body_pc kn (fun s t e => (hk s t e).1) nB dB.body _ cB vB
  have hm : Mv a.2.h a.1 (w0, s0) a := by
    refine ⟨?_, ?_, fun _ => ⟨?_, ?_⟩⟩
    · have := a5.2.h0; have := a4.h a2; have := a5.1.r0
      refine wk_ext ?_ ?_ ?_ ?_ ?_
      · simp only [mvW, w0]; omega
      · simp only [mvW, w0]; omega
      · simp only [mvW, w0]; omega
      · rw [a6]; rfl
      · rw [a7]; rfl
    · rw [a2]; rfl
    · show a.2.h = 0 + a.2.h; omega
    · exact a3
  have hbc : body kn dC.body (w0, s0) = body kn dB.body a := by rw [hC, body_append, a1]
  have e1 : a.1.i + a.2.h - a.1.i = a.2.h := by omega
  rcases hp.mv a.2.h a.1 (w0, s0) a b ⟨a4.i, a4.d⟩ ⟨Int.le_refl _, Int.le_refl _, fun _ => Int.le_refl _⟩ rfl hm b1 with ⟨c, c1, c2⟩ | ⟨⟨q, c1⟩, c2⟩
  · have hc := hbc.trans c1
    have hI := (body_inv kn (fun s t e => (hk s t e).2) dC.body _ _ xi_start hc).1
    obtain ⟨s1, s2⟩ := c2.s
    obtain ⟨s3, s4⟩ := s2 b2
    have hw := c2.w
    have w1 : c.1.i = max a.1.i (b.1.i - a.2.h) := by rw [hw]; rfl
    have w2 : c.1.d = max a.1.d (b.1.d + a.2.h) := by rw [hw]; rfl
    have w3 : c.1.r = max a.1.r b.1.r := by rw [hw]; rfl
    have w4 : c.1.nv = true := by rw [hw]; exact b6
    have hj := word_of kn dC c hc (by rw [← s1]; exact b2) (by rw [s4]; exact b3) w4 hI.1.i1 hI.1.d1 hI.1.r1
    rw [w1, w2, w3, s3] at hj
    have g1 : max a.1.i (b.1.i - (a.1.i + a.2.h - a.1.i)) = max a.1.i (b.1.i - a.2.h) := by rw [e1]
    have g2 : max a.1.i (b.1.i - (a.1.i + a.2.h - a.1.i)) + (a.1.i + a.2.h - a.1.i) + (b.1.i + b.2.h) - b.1.i = max a.1.i (b.1.i - a.2.h) + (b.2.h + a.2.h) := by rw [e1]; omega
    have g3 : max a.1.d (a.1.i + a.2.h - a.1.i + b.1.d) = max a.1.d (b.1.d + a.2.h) := by rw [e1]; congr 1; omega
    rw [g2, g1, g3]
    exact hj
  · have hc := hbc.trans c1
    have he := tyOf_err kn dC q hc
    unfold jn
    refine (if_pos ?_).mpr he
    have : ¬ (max a.1.i (b.1.i - a.2.h) ≤ 256 ∧ max a.1.d (b.1.d + a.2.h) ≤ 256 ∧ max a.1.r b.1.r ≤ 128) := by
      rintro ⟨m1, m2, m3⟩
      have : may (mvW a.2.h a.1 b.1) = true := by
        unfold may mvW
        simp only [Bool.and_eq_true, decide_eq_true_eq]
        exact ⟨m1, m2, m3⟩
      rw [this] at c2
      cases c2
    rw [e1]
    omega
/-- A node that names a word. -/
def cnd (nm : ByteArray) : Nd := ⟨3, 0, 0, nm, [], [], false, (0, 0)⟩
theorem node_cnd (kn : ByteArray → Option Ty) (nm : ByteArray) (x : X) : node kn (cnd nm) x = call (kn nm) (0, 0) x := by rw [node_is]; rfl
theorem grow_is (w : Wk) (i d r : Int) (p : Ps) : grow w i d r p = if max w.i i ≤ 256 ∧ max w.d d ≤ 256 ∧ max w.r r ≤ 128 then .ok (grown w i d r) else .error (153, p) := by
  unfold grow may grown
  simp only [Bool.and_eq_true, decide_eq_true_eq]
theorem dd_jn (kn : ByteArray → Option Ty) (dD : Df) (nA nB : ByteArray) (hD : dD.body = [cnd nA, cnd nB]) (x y : Ty) (kx : kn nA = some x) (ky : kn nB = some y) (tx : TI x) (ty : TI y) (ea : x.e = 0) (na : x.nv = false) (eb : y.e = 0) (nb : y.nv = false) :
    jn (tyOf kn dD) (max x.i (y.i - (x.o - x.i))) (max x.i (y.i - (x.o - x.i)) + (x.o - x.i) + y.o - y.i) (max x.d (x.o - x.i + y.d)) (max x.r y.r + 1) := by
  obtain ⟨x1, x2, x3, x4, x5, x6, x7, x8⟩ := tx ea
  obtain ⟨y1, y2, y3, y4, y5, y6, y7, y8⟩ := ty eb
  have hb1 : body kn dD.body (w0, s0) = match call (some x) (0, 0) (w0, s0) with | .error e => .error e | .ok z => (if z.2.dead then .ok z else match call (some y) (0, 0) z with | .error e => .error e | .ok u => .ok u) := by
    rw [hD, body_cons, if_neg (by decide), node_cnd, kx]
    cases call (some x) (0, 0) (w0, s0) with
    | error e => rfl
    | ok z =>
      simp only
      rw [body_cons, node_cnd, ky]
      by_cases hz : z.2.dead = true
      · rw [if_pos hz, if_pos hz]
      · rw [if_neg hz, if_neg hz]
        cases call (some y) (0, 0) z with
        | error e => rfl
        | ok u => rfl
  have hc1 : call (some x) (0, 0) (w0, s0) = if 1 + x.r ≤ 128 then .ok (⟨x.i, x.d, 1 + x.r, true, 0⟩, ⟨false, x.o - x.i, []⟩) else .error (153, (0, 0)) := by
    have q1 : w0.i = 0 := rfl
    have q2 : w0.d = 0 := rfl
    have q3 : w0.r = 0 := rfl
    have q4 : s0.h = 0 := rfl
    have q5 : (s0.own.length : Int) = 0 := rfl
    have hg := grow_is w0 (x.i - s0.h) (s0.h + x.d) ((s0.own.length : Int) + 1 + x.r) (0, 0)
    simp only [call]
    rw [if_pos ea, hg]
    by_cases hr : 1 + x.r ≤ 128
    · have hq : max w0.i (x.i - s0.h) ≤ 256 ∧ max w0.d (s0.h + x.d) ≤ 256 ∧ max w0.r ((s0.own.length : Int) + 1 + x.r) ≤ 128 := by
        rw [q1, q2, q3, q4, q5]
        refine ⟨?_, ?_, ?_⟩ <;> omega
      rw [if_pos hr, if_pos hq]
      have g1 : grown w0 (x.i - s0.h) (s0.h + x.d) ((s0.own.length : Int) + 1 + x.r) = ⟨x.i, x.d, 1 + x.r, true, 0⟩ := by
        refine wk_ext ?_ ?_ ?_ rfl rfl
        · show max w0.i (x.i - s0.h) = x.i; rw [q1, q4]; omega
        · show max w0.d (s0.h + x.d) = x.d; rw [q2, q4]; omega
        · show max w0.r ((s0.own.length : Int) + 1 + x.r) = 1 + x.r; rw [q3, q5]; omega
      have g2 : s0.h + (x.o - x.i) = x.o - x.i := by rw [q4]; omega
      simp only
      rw [g1, g2, na]
      rfl
    · have hq : ¬ (max w0.i (x.i - s0.h) ≤ 256 ∧ max w0.d (s0.h + x.d) ≤ 256 ∧ max w0.r ((s0.own.length : Int) + 1 + x.r) ≤ 128) := by
        rw [q1, q2, q3, q4, q5]
        rintro ⟨_, _, m⟩; omega
      rw [if_neg hr, if_neg hq]
  by_cases hr : 1 + x.r ≤ 128
  · rw [hc1, if_pos hr] at hb1
    simp only [Bool.false_eq_true, if_false] at hb1
    have hc2 : call (some y) (0, 0) (⟨x.i, x.d, 1 + x.r, true, 0⟩, ⟨false, x.o - x.i, []⟩) = if max x.i (y.i - (x.o - x.i)) ≤ 256 ∧ max x.d (x.o - x.i + y.d) ≤ 256 ∧ max (1 + x.r) (1 + y.r) ≤ 128 then .ok (⟨max x.i (y.i - (x.o - x.i)), max x.d (x.o - x.i + y.d), max (1 + x.r) (1 + y.r), true, 0⟩, ⟨false, x.o - x.i + (y.o - y.i), []⟩) else .error (153, (0, 0)) := by
      simp only [call]
      rw [if_pos eb, grow_is]
      simp only [List.length_nil]
      have e0 : ((0 : Nat) : Int) + 1 + y.r = 1 + y.r := by omega
      rw [e0]
      by_cases hm : max x.i (y.i - (x.o - x.i)) ≤ 256 ∧ max x.d (x.o - x.i + y.d) ≤ 256 ∧ max (1 + x.r) (1 + y.r) ≤ 128
      · rw [if_pos hm, if_pos hm]
        simp only [grown, nb]
      · rw [if_neg hm, if_neg hm]
    rw [hc2] at hb1
    by_cases hm : max x.i (y.i - (x.o - x.i)) ≤ 256 ∧ max x.d (x.o - x.i + y.d) ≤ 256 ∧ max (1 + x.r) (1 + y.r) ≤ 128
    · rw [if_pos hm] at hb1
      have hj := word_of kn dD _ hb1 rfl rfl rfl hm.1 hm.2.1 hm.2.2
      simp only at hj
      have g2 : max x.i (y.i - (x.o - x.i)) + (x.o - x.i) + y.o - y.i = max x.i (y.i - (x.o - x.i)) + (x.o - x.i + (y.o - y.i)) := by omega
      have g3 : max x.r y.r + 1 = max (1 + x.r) (1 + y.r) := by omega
      rw [g2, g3]
      exact hj
    · rw [if_neg hm] at hb1
      have he := tyOf_err kn dD _ hb1
      unfold jn
      refine (if_pos ?_).mpr he
      omega
  · rw [hc1, if_neg hr] at hb1
    have he := tyOf_err kn dD _ hb1
    unfold jn
    refine (if_pos ?_).mpr he
    omega
end Go.Proofs.YtlilefhmohkfkaaGreatDoor.E
/-! The law's program of five words. -/
namespace Go.Proofs.YtlilefhmohkfkaaGreatDoor.E
open Go.Proofs.YtlilefhmohkfkaaGreatDoor.Y (Nd Df Ps)
open R (cks ck chk Bk dsE dfE lk numb)
set_option linter.unusedVariables false
set_option linter.unusedSimpArgs false
set_option maxHeartbeats 1000000
def naa : ByteArray := ⟨#[97, 97]⟩
def nbb : ByteArray := ⟨#[98, 98]⟩
def ncc : ByteArray := ⟨#[99, 99]⟩
def ndd : ByteArray := ⟨#[100, 100]⟩
def nmain : ByteArray := ⟨#[109, 97, 105, 110]⟩
def wd (nm : ByteArray) (l : List Nd) : Df := ⟨1, nm, 0, l, (0, 0)⟩
def ds5 (a b : List Nd) : List Df := [wd naa a, wd nbb b, wd ncc (a ++ b), wd ndd [cnd naa, cnd nbb], wd nmain []]
theorem wordsOf5 (a b : List Nd) : wordsOf (ds5 a b) = ds5 a b := rfl
theorem lk5a : lk (numb ((ds5 [] []).map (·.nm)) 0) naa = some 0 := by kernel_rfl
theorem lk5b : lk (numb ((ds5 [] []).map (·.nm)) 0) nbb = some 1 := by kernel_rfl
theorem known_mem {at_ : R.En} {l : List Ty} {s : ByteArray} {t : Ty} (e : known at_ l s = some t) : t ∈ l := by
  unfold known at e
  split at e
  · cases e
  · exact List.mem_of_getElem? e
theorem td_of (kn : ByteArray → Option Ty) (d : Df) (names : List ByteArray) (hk : ∀ s t, kn s = some t → TD t ∧ TI t) (hc : cks names d.body (0, false) = 0) (hv : lvs d.body = false) : TD (tyOf kn d) := by
  intro he hn
  obtain ⟨x, _, hd, _, h4, _, _, _, _, h9⟩ := word_parts kn d names hk hc hv he hn
  rw [h9]
  have := h4.h hd
  simp only
  omega
theorem five (a b : List Nd) (h : chk (ds5 a b) [] = 0) (va : lvs a = false) (vb : lvs b = false) :
    ∃ t0 t1 t2 t3 t4 : Ty, shs (ds5 a b) = [t0, t1, t2, t3, t4] ∧ TI t0 ∧ TI t1 ∧ (t0.e = 0 → t1.e = 0 → t0.nv = false → t1.nv = false →
      jn t2 (max t0.i (t1.i - (t0.o - t0.i))) (max t0.i (t1.i - (t0.o - t0.i)) + (t0.o - t0.i) + t1.o - t1.i) (max t0.d (t0.o - t0.i + t1.d)) (max t0.r t1.r) ∧
      jn t3 (max t0.i (t1.i - (t0.o - t0.i))) (max t0.i (t1.i - (t0.o - t0.i)) + (t0.o - t0.i) + t1.o - t1.i) (max t0.d (t0.o - t0.i + t1.d)) (max t0.r t1.r + 1)) := by
  obtain ⟨at_, hat⟩ : ∃ at_, numb ((ds5 a b).map (·.nm)) 0 = at_ := ⟨_, rfl⟩
  have ka : lk at_ naa = some 0 := by rw [← hat]; exact lk5a
  have kb : lk at_ nbb = some 1 := by rw [← hat]; exact lk5b
  have hds := chk_ds h
  have cA : cks [] a (0, false) = 0 := dfE_body _ _ (dsE_at (ds5 a b) [] hds 0 _ rfl)
  have cB : cks [naa] b (0, false) = 0 := dfE_body _ _ (dsE_at (ds5 a b) [] hds 1 _ rfl)
  obtain ⟨t0, h0⟩ : ∃ t, tyOf (known at_ []) (wd naa a) = t := ⟨_, rfl⟩
  obtain ⟨t1, h1⟩ : ∃ t, tyOf (known at_ [t0]) (wd nbb b) = t := ⟨_, rfl⟩
  obtain ⟨t2, h2⟩ : ∃ t, tyOf (known at_ [t0, t1]) (wd ncc (a ++ b)) = t := ⟨_, rfl⟩
  obtain ⟨t3, h3⟩ : ∃ t, tyOf (known at_ [t0, t1, t2]) (wd ndd [cnd naa, cnd nbb]) = t := ⟨_, rfl⟩
  obtain ⟨t4, h4⟩ : ∃ t, tyOf (known at_ [t0, t1, t2, t3]) (wd nmain []) = t := ⟨_, rfl⟩
  have e0 : ∀ s t, known at_ [] s = some t → TD t ∧ TI t := fun s t e => by have := known_mem e; simp at this
  have T0 : TI t0 := by rw [← h0]; exact word_ti _ (fun s t e => (e0 s t e).2) _
  have D0 : TD t0 := by rw [← h0]; exact td_of _ _ [] e0 cA va
  have e1 : ∀ s t, known at_ [t0] s = some t → TD t ∧ TI t := fun s t e => by
    have := known_mem e
    rw [List.mem_singleton] at this
    subst this
    exact ⟨D0, T0⟩
  have T1 : TI t1 := by rw [← h1]; exact word_ti _ (fun s t e => (e1 s t e).2) _
  have D1 : TD t1 := by rw [← h1]; exact td_of _ _ [naa] e1 cB vb
  have e2 : ∀ s t, known at_ [t0, t1] s = some t → TD t ∧ TI t := fun s t e => by
    have := known_mem e
    simp only [List.mem_cons, List.not_mem_nil, or_false] at this
    rcases this with rfl | rfl
    · exact ⟨D0, T0⟩
    · exact ⟨D1, T1⟩
  have q0 : tyOf (known at_ [t0, t1]) (wd naa a) = t0 := by
    rw [← h0]
    exact tyOf_congr _ (body_congr (names := []) (fun s hs => by simp at hs) _ _ cA)
  have q1 : tyOf (known at_ [t0, t1]) (wd nbb b) = t1 := by
    rw [← h1]
    refine tyOf_congr _ (body_congr (names := [naa]) (fun s hs => ?_) _ _ cB)
    rw [List.mem_singleton] at hs
    subst hs
    unfold known
    rw [ka]
    rfl
  refine ⟨t0, t1, t2, t3, t4, ?_, T0, T1, fun f0 f1 g0 g1 => ⟨?_, ?_⟩⟩
  · have : shs (ds5 a b) = tysP at_ [] (ds5 a b) := by unfold shs; rw [wordsOf5, hat]
    rw [this]
    simp only [ds5, tysP, List.nil_append, List.cons_append]
    rw [h0, h1, h2, h3, h4]
  · rw [← h2]
    exact cc_jn (known at_ [t0, t1]) e2 (wd naa a) (wd nbb b) (wd ncc (a ++ b)) [] [naa] rfl cA cB va vb t0 t1 q0 q1 f0 g0 f1 g1
  · rw [← h3]
    exact dd_jn (known at_ [t0, t1, t2]) (wd ndd [cnd naa, cnd nbb]) naa nbb rfl t0 t1 (by unfold known; rw [ka]; rfl) (by unfold known; rw [kb]; rfl) T0 T1 f0 g0 f1 g1
end Go.Proofs.YtlilefhmohkfkaaGreatDoor.E
/-! The law's joins. -/
namespace Go.Proofs.YtlilefhmohkfkaaGreatDoor.E
open Go.RowKit
open Go.Proofs
open Go.Proofs.YtlilefhmohkfkaaGreatDoor.Y (Nd Df Ps ndc dfc hid NV DV D1 cells6 cells9 BV)
set_option linter.unusedVariables false
set_option linter.unusedSimpArgs false
set_option maxHeartbeats 2000000
set_option maxRecDepth 100000
theorem shF : Tryz.prog.underlying 45 = some (.struct (Tryz.prog.fieldsOf 45)) ∧ Tryz.prog.fieldsOf 45 = #[⟨ "In", 3, 0, false, "", "", 0⟩, ⟨ "Out", 3, 1, false, "", "", 8⟩, ⟨ "Data", 3, 2, false, "", "", 16⟩, ⟨ "Return", 3, 3, false, "", "", 24⟩, ⟨ "Never", 4, 4, false, "", "", 32⟩] ∧ Tryz.prog.stoodInHeld 45 = false ∧ Tryz.prog.cellsOf 3 = 1 ∧ Tryz.prog.cellsOf 4 = 1 :=
  ⟨by kernel_rfl, by kernel_rfl, by kernel_rfl, by kernel_rfl, by kernel_rfl⟩
theorem eql_sh (W : World) (i o d r : Int) (n : Bool) : (binOp .eql 45 (.agg #[.int .i64 i, .int .i64 o, .int .i64 d, .int .i64 r, .bool n]) (.agg #[.int .i64 i, .int .i64 o, .int .i64 d, .int .i64 r, .bool n])).run Tryz.prog W = .ok (.bool true) W := by
  obtain ⟨hs, hf, hp, k3, k4⟩ := shF
  rw [run_eql_struct, run_equalIn_agg W 9999 _ _ _ hs hp, hf]
  simp [go_sem, Tryz.underlying3, Tryz.underlying4, k3, k4, Result.andThen]
theorem posF : Tryz.prog.underlying 25 = some (.struct (Tryz.prog.fieldsOf 25)) ∧ Tryz.prog.fieldsOf 25 = #[⟨ "Line", 3, 0, false, "", "", 0⟩, ⟨ "Col", 3, 1, false, "", "", 8⟩] ∧ Tryz.prog.stoodInHeld 25 = false ∧ Tryz.prog.cellsOf 3 = 1 :=
  ⟨by kernel_rfl, by kernel_rfl, by kernel_rfl, by kernel_rfl⟩
theorem eql_pos (W : World) (a b : Int) : (binOp .eql 25 (.agg #[.int .i64 a, .int .i64 b]) (.agg #[.int .i64 a, .int .i64 b])).run Tryz.prog W = .ok (.bool true) W := by
  obtain ⟨hs, hf, hp, k3⟩ := posF
  rw [run_eql_struct, run_equalIn_agg W 9999 _ _ _ hs hp, hf]
  simp [go_sem, Tryz.underlying3, k3, Result.andThen]
theorem joins_any (t : Ty) (i o d r : Int) (h : jn t i o d r) (W : World) : Calls Tryz.prog 14 #[.agg #[.string t.nm, .int .i64 t.i, .int .i64 t.o, .int .i64 t.d, .int .i64 t.r, .bool t.nv, .int .i64 t.e, .int .i64 t.p.1, .int .i64 t.p.2], .agg #[.int .i64 i, .int .i64 o, .int .i64 d, .int .i64 r, .bool false]] W fun e w' => e = .returned (.bool true) ∧ Below W.heap.size W w' := by
  obtain ⟨nm, ti, tt, td, tr, tn, te, tp⟩ := t
  obtain ⟨W0, hW0⟩ : ∃ W0, W.alloc (.cells #[.string nm, .int .i64 ti, .int .i64 tt, .int .i64 td, .int .i64 tr, .bool tn, .int .i64 te, .int .i64 tp.1, .int .i64 tp.2] 47) = W0 := ⟨_, rfl⟩
  obtain ⟨W1, hW1⟩ : ∃ W1, W0.alloc (.cells #[.int .i64 i, .int .i64 o, .int .i64 d, .int .i64 r, .bool false] 45) = W1 := ⟨_, rfl⟩
  have hs0 : W0.heap.size = W.heap.size + 1 := by rw [← hW0]; simp
  have hB : Below W.heap.size W W1 := by rw [← hW1, ← hW0]; exact ((Below.refl _ _).alloc (Nat.le_refl _) _).alloc (by simp) _
  have v0 : W1.heap[W.heap.size]? = some (.cells [Value.string nm, .int .i64 ti, .int .i64 tt, .int .i64 td, .int .i64 tr, .bool tn, .int .i64 te, .int .i64 tp.1, .int .i64 tp.2].toArray 47 (0, 0)) := by
    rw [← hW1]; exact (Below.heap_alloc _ _ _ (by omega)).trans (by rw [← hW0]; exact heap_alloc_new W _)
  have v1 : W1.heap[W0.heap.size]? = some (.cells [Value.int .i64 i, .int .i64 o, .int .i64 d, .int .i64 r, .bool false].toArray 45 (0, 0)) := by rw [← hW1]; exact heap_alloc_new W0 _
  have a1 := S.cell_of W1 _ 1 _ 47 _ v0 rfl
  have a2 := S.cell_of W1 _ 2 _ 47 _ v0 rfl
  have a3 := S.cell_of W1 _ 3 _ 47 _ v0 rfl
  have a4 := S.cell_of W1 _ 4 _ 47 _ v0 rfl
  have a5 := S.cell_of W1 _ 5 _ 47 _ v0 rfl
  have a6 := S.cell_of W1 _ 6 _ 47 _ v0 rfl
  have b0 := S.cell_of W1 _ 0 _ 45 _ v1 rfl
  have b1 := S.cell_of W1 _ 1 _ 45 _ v1 rfl
  have b2 := S.cell_of W1 _ 2 _ 45 _ v1 rfl
  have b3 := S.cell_of W1 _ 3 _ 45 _ v1 rfl
  have b4 := S.cell_of W1 _ 4 _ 45 _ v1 rfl
  have HB := hid hB
  clear hB v0 v1 hs0
  unfold jn at h
  have hnum := num_any te W1
  by_cases c1 : 256 < i
  · rw [if_pos (Or.inl c1)] at h
    simp only at h
    subst h
    go_enter Tryz.func14, Tryz.ntmps14
    go_wp2_with fail
    refine hnum.mono ?_
    rintro e w1 ⟨rfl, rfl⟩
    clear hnum
    go_wp2
    go_ret
    exact ⟨rfl, HB.out⟩
  by_cases c2 : 256 < o
  · rw [if_pos (Or.inr (Or.inl c2))] at h
    simp only at h
    subst h
    go_enter Tryz.func14, Tryz.ntmps14
    go_wp2_with fail
    refine hnum.mono ?_
    rintro e w1 ⟨rfl, rfl⟩
    clear hnum
    go_wp2
    go_ret
    exact ⟨rfl, HB.out⟩
  by_cases c3 : 256 < d
  · rw [if_pos (Or.inr (Or.inr (Or.inl c3)))] at h
    simp only at h
    subst h
    go_enter Tryz.func14, Tryz.ntmps14
    go_wp2_with fail
    refine hnum.mono ?_
    rintro e w1 ⟨rfl, rfl⟩
    clear hnum
    go_wp2
    go_ret
    exact ⟨rfl, HB.out⟩
  by_cases c4 : 128 < r
  · rw [if_pos (Or.inr (Or.inr (Or.inr c4)))] at h
    simp only at h
    subst h
    go_enter Tryz.func14, Tryz.ntmps14
    go_wp2_with fail
    refine hnum.mono ?_
    rintro e w1 ⟨rfl, rfl⟩
    clear hnum
    go_wp2
    go_ret
    exact ⟨rfl, HB.out⟩
  · rw [if_neg (by omega)] at h
    simp only at h
    obtain ⟨rfl, rfl, rfl, rfl, rfl, rfl⟩ := h
    have heq := fun W => eql_sh W ti tt td tr false
    go_enter Tryz.func14, Tryz.ntmps14
    go_wp2_with fail
    refine hnum.mono ?_
    rintro e w1 ⟨rfl, rfl⟩
    clear hnum
    go_wp2
    go_ret
    exact ⟨rfl, HB.out⟩
end Go.Proofs.YtlilefhmohkfkaaGreatDoor.E
