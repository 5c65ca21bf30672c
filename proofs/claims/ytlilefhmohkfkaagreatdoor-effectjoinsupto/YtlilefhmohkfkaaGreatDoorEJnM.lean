import Derived.Test.YtlilefhmohkfkaaGreatDoorETypedL
/-! Two bodies one behind the other: a walk that begins higher is the same walk, moved. -/
namespace Go.Proofs.YtlilefhmohkfkaaGreatDoor.E
open Go.Proofs.YtlilefhmohkfkaaGreatDoor.Y (Nd Df Ps)
open R (cks ck own1 inn uses usesF fits ck_is cks_cons)
set_option linter.unusedVariables false
set_option linter.unusedSimpArgs false
set_option maxHeartbeats 1000000
/-- Does an exit stand here? -/
def lv : Nd → Bool
  | ⟨k, _, _, _, th, el, _, _⟩ => k == 9 || ((th.map lv).any id || (el.map lv).any id)
def lvs (l : List Nd) : Bool := (l.map lv).any id
theorem lv_is (n : Nd) : lv n = (n.k == 9 || (lvs n.th || lvs n.el)) := by cases n; rw [lv]; rfl
theorem lvs_mem {l : List Nd} (h : lvs l = false) : ∀ m ∈ l, lv m = false := by
  intro m hm
  unfold lvs at h
  rw [List.any_eq_false] at h
  have := h (lv m) (List.mem_map.2 ⟨m, hm, rfl⟩)
  simpa using this
theorem cks_mem {names : List ByteArray} {i : Nat × Bool} : ∀ {l : List Nd}, cks names l i = 0 → ∀ m ∈ l, ck names m i = 0
  | [], _, m, hm => by simp at hm
  | n :: r, h, m, hm => by
    rw [cks_cons] at h
    by_cases e : ck names n i = 0
    · rw [if_pos e] at h
      rcases List.mem_cons.1 hm with rfl | hm
      · exact e
      · exact cks_mem h m hm
    · rw [if_neg e] at h; exact (e h).elim
theorem ckp {names : List ByteArray} {n : Nd} {i : Nat × Bool} (h : ck names n i = 0) : 1 ≤ n.k ∧ n.k ≤ 9 ∧ fits names n = true ∧ cks names n.th (inn n i) = 0 ∧ cks names n.el (inn n i) = 0 := by
  rw [ck_is] at h
  have h0 : own1 names n i = 0 := by
    by_cases e : own1 names n i = 0
    · exact e
    · rw [if_neg e] at h; exact h
  rw [if_pos h0] at h
  have h1 : cks names n.th (inn n i) = 0 := by
    by_cases e : cks names n.th (inn n i) = 0
    · exact e
    · rw [if_neg e] at h; exact h
  rw [if_pos h1] at h
  unfold own1 at h0
  split at h0
  · cases h0
  · rename_i hu
    split at h0
    · cases h0
    · rename_i hf
      have hu2 : uses n = true := by simpa using hu
      unfold uses usesF at hu2
      simp only [Bool.and_eq_true, decide_eq_true_eq] at hu2
      exact ⟨hu2.1, hu2.2.1, by simpa using hf, h1, h⟩
/-! ### Words that are known otherwise -/
theorem node_congr {kn kn' : ByteArray → Option Ty} {names : List ByteArray} (hk : ∀ s ∈ names, kn s = kn' s) (n : Nd) : ∀ i, ck names n i = 0 → node kn n = node kn' n :=
  Nd.ind (P := fun n => ∀ i, ck names n i = 0 → node kn n = node kn' n) (fun n h1 h2 i hc => by
    obtain ⟨_, _, hf, ht, he⟩ := ckp hc
    rw [node_is, node_is]
    have e1 : body kn n.th = body kn' n.th := by
      unfold body
      rw [List.map_congr_left fun m hm => h1 m hm _ (cks_mem ht m hm)]
    have e2 : body kn n.el = body kn' n.el := by
      unfold body
      rw [List.map_congr_left fun m hm => h2 m hm _ (cks_mem he m hm)]
    rw [e1, e2]
    funext x
    unfold nodeB
    by_cases k3 : n.k = 3
    · have : kn n.nm = kn' n.nm := by
        unfold fits at hf
        rw [if_neg (by omega), if_pos k3, List.any_eq_true] at hf
        obtain ⟨s, hs, e⟩ := hf
        have e' : s = n.nm := by simpa using e
        exact e' ▸ hk s hs
      rw [this]
    · simp only [if_neg k3]) n
theorem body_congr {kn kn' : ByteArray → Option Ty} {names : List ByteArray} (hk : ∀ s ∈ names, kn s = kn' s) (l : List Nd) (i : Nat × Bool) (h : cks names l i = 0) : body kn l = body kn' l := by
  unfold body
  rw [List.map_congr_left fun m hm => node_congr hk m i (cks_mem h m hm)]
theorem run_append : ∀ (fs gs : List (X → Re)) (x : X), run (fs ++ gs) x = match run fs x with | .error e => .error e | .ok y => run gs y
  | [], gs, x => rfl
  | f :: r, gs, x => by
    rw [List.cons_append, run, run]
    by_cases hd : x.2.dead = true
    · rw [if_pos hd, if_pos hd]
      simp only
      cases gs with
      | nil => rfl
      | cons g t => rw [run, if_pos hd]
    · rw [if_neg hd, if_neg hd]
      cases hf : f x with
      | error e => rfl
      | ok y => simp only; exact run_append r gs y
theorem body_append (kn : ByteArray → Option Ty) (a b : List Nd) (x : X) : body kn (a ++ b) x = match body kn a x with | .error e => .error e | .ok y => body kn b y := by
  unfold body
  rw [List.map_append, run_append]
/-! ### Numbers only grow -/
def Le (w v : Wk) : Prop := w.i ≤ v.i ∧ w.d ≤ v.d ∧ w.r ≤ v.r ∧ w.nv = v.nv ∧ w.lf = v.lf
theorem Le.refl (w : Wk) : Le w w := ⟨Int.le_refl _, Int.le_refl _, Int.le_refl _, rfl, rfl⟩
theorem Le.trans {a b c : Wk} (h : Le a b) (k : Le b c) : Le a c := ⟨Int.le_trans h.1 k.1, Int.le_trans h.2.1 k.2.1, Int.le_trans h.2.2.1 k.2.2.1, h.2.2.2.1.trans k.2.2.2.1, h.2.2.2.2.trans k.2.2.2.2⟩
def mvW (h : Int) (W w : Wk) : Wk := { w with i := max W.i (w.i - h), d := max W.d (w.d + h), r := max W.r w.r }
def mvS (h : Int) (s t : St) : Prop := s.dead = t.dead ∧ (s.dead = false → t.h = s.h + h ∧ t.own = s.own)
/-- What a walk's numbers always are. -/
structure Dn (x : X) : Prop where
  i : 0 ≤ x.1.i
  d : 0 ≤ x.1.d
  h : x.2.dead = false → x.2.h ≤ x.1.d
structure Mv (h : Int) (W : Wk) (x y : X) : Prop where
  w : y.1 = mvW h W x.1
  s : mvS h x.2 y.2
structure WB (W : Wk) : Prop where
  i : 0 ≤ W.i
  d : 0 ≤ W.d
/-- A piece without exits. -/
structure Pc (f : X → Re) : Prop where
  le : ∀ x y, f x = .ok y → Le x.1 y.1
  dn : ∀ x y, Dn x → x.2.dead = false → f x = .ok y → Dn y
  mv : ∀ h W x x' y, WB W → Dn x → x.2.dead = false → Mv h W x x' → f x = .ok y → (∃ y', f x' = .ok y' ∧ Mv h W y y') ∨ ((∃ p, f x' = .error (153, p)) ∧ may (mvW h W y.1) = false)
theorem may_down {h : Int} {W w v : Wk} (k : Le w v) (m : may (mvW h W w) = false) : may (mvW h W v) = false := by
  obtain ⟨k1, k2, k3, _, _⟩ := k
  cases e : may (mvW h W v) with
  | false => rfl
  | true =>
    exfalso
    unfold may mvW at e m
    simp only [Bool.and_eq_true, decide_eq_true_eq] at e
    have : (decide (max W.i (w.i - h) ≤ 256) && (decide (max W.d (w.d + h) ≤ 256) && decide (max W.r w.r ≤ 128))) = true := by
      simp only [Bool.and_eq_true, decide_eq_true_eq]
      obtain ⟨e1, e2, e3⟩ := e
      refine ⟨by omega, by omega, by omega⟩
    rw [this] at m
    cases m
theorem grow_ok {w v : Wk} {i d r : Int} {p : Ps} (e : grow w i d r p = .ok v) : v = grown w i d r := by
  unfold grow at e
  split at e
  · cases e; rfl
  · cases e
theorem grown_le (w : Wk) (i d r : Int) : Le w (grown w i d r) := by
  unfold grown Le
  refine ⟨?_, ?_, ?_, rfl, rfl⟩ <;> simp only <;> omega
theorem grow_mv {h : Int} {W w v : Wk} {i d r i' d' : Int} {p : Ps} (e : grow w i d r p = .ok v) (k : grown (mvW h W w) i' d' r = mvW h W (grown w i d r)) : grow (mvW h W w) i' d' r p = if may (mvW h W v) then .ok (mvW h W v) else .error (153, p) := by
  rw [grow_ok e]
  unfold grow
  rw [k]
theorem wk_ext {a b : Wk} (h1 : a.i = b.i) (h2 : a.d = b.d) (h3 : a.r = b.r) (h4 : a.nv = b.nv) (h5 : a.lf = b.lf) : a = b := by cases a; cases b; simp_all
theorem grown_mv (h : Int) (W w : Wk) (i d r : Int) : grown (mvW h W w) (i - h) (d + h) r = mvW h W (grown w i d r) := by
  unfold grown mvW
  refine wk_ext ?_ ?_ ?_ rfl rfl <;> simp only <;> omega
theorem grown_mv0 (h : Int) (W w : Wk) (r : Int) (hW : WB W) (h1 : 0 ≤ w.i) (h2 : 0 ≤ w.d) : grown (mvW h W w) 0 0 r = mvW h W (grown w 0 0 r) := by
  have := hW.i; have := hW.d
  unfold grown mvW
  refine wk_ext ?_ ?_ ?_ rfl rfl <;> simp only <;> omega
theorem step_pc (a b : Int) (p : Ps) : Pc fun x => step x a b p := by
  refine ⟨?_, ?_, ?_⟩
  · rintro ⟨w, s⟩ y e
    simp only [step] at e
    split at e
    · cases e
    · rename_i v hg
      cases e
      rw [grow_ok hg]
      exact grown_le _ _ _ _
  · rintro ⟨w, s⟩ y hx hl e
    simp only [step] at e
    split at e
    · cases e
    · rename_i v hg
      cases e
      rw [grow_ok hg]
      have := hx.i; have := hx.d
      refine ⟨?_, ?_, fun _ => ?_⟩ <;> simp only [grown] at * <;> omega
  · rintro h W ⟨w, s⟩ ⟨w', s'⟩ y hW hx hl ⟨hw, hs⟩ e
    simp only at hw hs hl
    subst hw
    obtain ⟨s1, s2⟩ := hs
    obtain ⟨s3, s4⟩ := s2 hl
    simp only [step] at e ⊢
    split at e
    · cases e
    · rename_i v hg
      cases e
      have hm := grow_mv (h := h) (W := W) (i' := a - s'.h) (d' := s'.h - a + b) hg (by rw [s3, ← grown_mv]; congr 1 <;> omega)
      rw [hm]
      by_cases m : may (mvW h W v) = true
      · rw [if_pos m]
        exact .inl ⟨_, rfl, rfl, s1, fun _ => ⟨by simp only; omega, s4⟩⟩
      · rw [if_neg m]
        exact .inr ⟨⟨_, rfl⟩, by simpa using m⟩
theorem put_pc (p : Ps) (ks : List UInt8) : Pc fun x => put x p ks := by
  refine ⟨?_, ?_, ?_⟩
  · rintro ⟨w, s⟩ y e
    simp only [put] at e
    split at e
    · cases e
    · rename_i v hg
      cases e
      rw [grow_ok hg]
      exact grown_le _ _ _ _
  · rintro ⟨w, s⟩ y hx hl e
    simp only [put] at e
    split at e
    · cases e
    · rename_i v hg
      cases e
      rw [grow_ok hg]
      have := hx.i; have := hx.d; have := hx.h
      refine ⟨?_, ?_, fun hh => ?_⟩
      · simp only [grown] at *; omega
      · simp only [grown] at *; omega
      · have := hx.h hl
        simp only [grown] at *; omega
  · rintro h W ⟨w, s⟩ ⟨w', s'⟩ y hW hx hl ⟨hw, hs⟩ e
    simp only at hw hs hl
    subst hw
    obtain ⟨s1, s2⟩ := hs
    obtain ⟨s3, s4⟩ := s2 hl
    simp only [put] at e ⊢
    split at e
    · cases e
    · rename_i v hg
      cases e
      rw [s4]
      rw [grow_mv (h := h) (W := W) (i' := 0) (d' := 0) hg (grown_mv0 h W w _ hW hx.i hx.d)]
      by_cases m : may (mvW h W v) = true
      · rw [if_pos m]
        exact .inl ⟨_, rfl, rfl, s1, fun _ => ⟨s3, rfl⟩⟩
      · rw [if_neg m]
        exact .inr ⟨⟨_, rfl⟩, by simpa using m⟩
theorem rfits_mv {h : Int} {s t : St} (op : Int) (k : mvS h s t) (hl : s.dead = false) : rfits op t = rfits op s := by
  have := (k.2 hl).2
  unfold rfits kd
  rw [this]
theorem prim_pc (op : Int) (p : Ps) : Pc (prim op p) := by
  have hs := step_pc (P.ri op.toNat) (P.ro op.toNat) p
  have hp := put_pc p [4]
  refine ⟨?_, ?_, ?_⟩
  · intro x y e
    unfold prim at e
    split at e
    · cases e
    split at e
    · cases e
    rename_i z hz
    have h1 := hs.le x z hz
    split at e
    · exact h1.trans (hp.le z y e)
    split at e
    · cases e; exact h1
    split at e
    · cases e; exact h1
    · cases e; exact h1
  · intro x y hx hl e
    unfold prim at e
    split at e
    · cases e
    split at e
    · cases e
    rename_i z hz
    have h1 := hs.dn x z hx hl hz
    have lz : z.2.dead = false := by
      simp only [step] at hz
      split at hz
      · cases hz
      · cases hz; exact hl
    split at e
    · exact hp.dn z y h1 lz e
    split at e
    · cases e; exact ⟨h1.i, h1.d, h1.h⟩
    split at e
    · cases e; exact ⟨h1.i, h1.d, fun hh => by cases hh⟩
    · cases e; exact h1
  · intro h W x x' y hW hx hl hm e
    unfold prim at e
    split at e
    · cases e
    rename_i hr
    split at e
    · cases e
    rename_i z hz
    have h1 := hs.dn x z hx hl hz
    have lz : z.2.dead = false := by
      simp only [step] at hz
      split at hz
      · cases hz
      · cases hz; exact hl
    unfold prim
    rw [rfits_mv op hm.s hl, if_neg hr]
    have hyz : Le z.1 y.1 := by
      split at e
      · exact hp.le z y e
      split at e
      · cases e; exact Le.refl _
      split at e
      · cases e; exact Le.refl _
      · cases e; exact Le.refl _
    rcases hs.mv h W x x' z hW hx hl hm hz with ⟨z', e1, k1⟩ | ⟨⟨q, e1⟩, k1⟩
    · try simp only at e1
      rw [e1]
      simp only
      obtain ⟨k2, k3⟩ := k1.s.2 lz
      split at e
      · rename_i c1
        rw [if_pos c1]
        exact hp.mv h W z z' y hW h1 lz k1 e
      rename_i c1
      rw [if_neg c1]
      split at e
      · rename_i c2
        cases e
        rw [if_pos c2]
        exact .inl ⟨_, rfl, k1.w, k1.s.1, fun _ => ⟨k2, by simp only; rw [k3]⟩⟩
      rename_i c2
      rw [if_neg c2]
      split at e
      · rename_i c3
        cases e
        rw [if_pos c3]
        exact .inl ⟨_, rfl, k1.w, rfl, fun hh => by cases hh⟩
      · rename_i c3
        cases e
        rw [if_neg c3]
        exact .inl ⟨_, rfl, k1⟩
    · try simp only at e1
      rw [e1]
      exact .inr ⟨⟨q, rfl⟩, may_down hyz k1⟩
def TD (t : Ty) : Prop := t.e = 0 → t.nv = false → t.o - t.i ≤ t.d
theorem call_pc (t : Option Ty) (ht : ∀ t', t = some t' → TD t') (p : Ps) : Pc (call t p) := by
  cases t with
  | none => exact step_pc 0 1 p
  | some t =>
    refine ⟨?_, ?_, ?_⟩
    · rintro ⟨w, s⟩ y e
      simp only [call] at e
      split at e
      · split at e
        · cases e
        · rename_i v hg
          cases e
          rw [grow_ok hg]
          exact grown_le _ _ _ _
      · cases e
    · rintro ⟨w, s⟩ y hx hl e
      simp only [call] at e
      split at e
      · rename_i he
        split at e
        · cases e
        · rename_i v hg
          cases e
          rw [grow_ok hg]
          have := hx.i; have := hx.d
          refine ⟨?_, ?_, fun hh => ?_⟩
          · simp only [grown] at *; omega
          · simp only [grown] at *; omega
          · have := ht t rfl he hh
            simp only [grown] at *; omega
      · cases e
    · rintro h W ⟨w, s⟩ ⟨w', s'⟩ y hW hx hl ⟨hw, hs⟩ e
      simp only at hw hs hl
      subst hw
      obtain ⟨s1, s2⟩ := hs
      obtain ⟨s3, s4⟩ := s2 hl
      simp only [call] at e ⊢
      split at e
      · rename_i he
        rw [if_pos he]
        split at e
        · cases e
        · rename_i v hg
          cases e
          rw [s4]
          rw [grow_mv (h := h) (W := W) (i' := t.i - s'.h) (d' := s'.h + t.d) hg (by rw [s3, ← grown_mv]; congr 1 <;> omega)]
          by_cases m : may (mvW h W v) = true
          · rw [if_pos m]
            exact .inl ⟨_, rfl, rfl, rfl, fun _ => ⟨by simp only; omega, rfl⟩⟩
          · rw [if_neg m]
            exact .inr ⟨⟨_, rfl⟩, by simpa using m⟩
      · cases e
/-! ### Structures -/
theorem step_live {x y : X} {a b : Int} {p : Ps} (e : step x a b p = .ok y) : y.2.dead = x.2.dead := by
  unfold step at e
  split at e
  · cases e
  · cases e; rfl
theorem put_live {x y : X} {ks : List UInt8} {p : Ps} (e : put x p ks = .ok y) : y.2.dead = x.2.dead := by
  unfold put at e
  split at e
  · cases e
  · cases e; rfl
theorem run_pc : ∀ (fs : List (X → Re)), (∀ f ∈ fs, Pc f) → Pc (run fs)
  | [], _ => ⟨fun x y e => by rw [run] at e; cases e; exact Le.refl _, fun x y hx hl e => by rw [run] at e; cases e; exact hx, fun h W x x' y hW hx hl hm e => by rw [run] at e; cases e; exact .inl ⟨x', rfl, hm⟩⟩
  | f :: r, hf => by
    have h1 := hf f (by simp)
    have h2 := run_pc r fun g hg => hf g (by simp [hg])
    refine ⟨?_, ?_, ?_⟩
    · intro x y e
      rw [run] at e
      split at e
      · cases e; exact Le.refl _
      · split at e
        · cases e
        · rename_i z hz
          exact (h1.le x z hz).trans (h2.le z y e)
    · intro x y hx hl e
      rw [run, hl] at e
      simp only [Bool.false_eq_true, if_false] at e
      split at e
      · cases e
      · rename_i z hz
        have hz1 := h1.dn x z hx hl hz
        cases hzl : z.2.dead with
        | false => exact h2.dn z y hz1 hzl e
        | true =>
          have : run r z = .ok z := by cases r with
            | nil => rfl
            | cons g t => rw [run, if_pos hzl]
          rw [this] at e
          cases e
          exact hz1
    · intro h W x x' y hW hx hl hm e
      have hl' : x'.2.dead = false := by rw [← hm.s.1]; exact hl
      rw [run, hl] at e
      rw [run, hl']
      simp only [Bool.false_eq_true, if_false] at e ⊢
      split at e
      · cases e
      · rename_i z hz
        have hz1 := h1.dn x z hx hl hz
        rcases h1.mv h W x x' z hW hx hl hm hz with ⟨z', e1, k1⟩ | ⟨⟨q, e1⟩, k1⟩
        · rw [e1]
          simp only
          cases hzl : z.2.dead with
          | false => exact h2.mv h W z z' y hW hz1 hzl k1 e
          | true =>
            have a1 : ∀ u : X, u.2.dead = true → run r u = .ok u := by
              intro u hu
              cases r with
              | nil => rfl
              | cons g t => rw [run, if_pos hu]
            rw [a1 z hzl] at e
            cases e
            exact .inl ⟨z', a1 z' (by rw [← k1.s.1]; exact hzl), k1⟩
        · rw [e1]
          exact .inr ⟨⟨q, rfl⟩, may_down (h2.le z y e) k1⟩
theorem same_is (a b : St) : same a b = true ↔ a.dead = b.dead ∧ a.h = b.h ∧ a.own = b.own := by
  unfold same
  simp only [Bool.and_eq_true, beq_iff_eq, decide_eq_true_eq]
theorem same_mv {h : Int} {a a' b b' : St} (k1 : mvS h a a') (k2 : mvS h b b') (la : a.dead = false) (lb : b.dead = false) : (same a' b' = true) ↔ (same a b = true) := by
  obtain ⟨a1, a2⟩ := k1.2 la
  obtain ⟨b1, b2⟩ := k2.2 lb
  rw [same_is, same_is, a1, a2, b1, b2, ← k1.1, ← k2.1]
  constructor
  · rintro ⟨h1, h2, h3⟩; exact ⟨h1, by omega, h3⟩
  · rintro ⟨h1, h2, h3⟩; exact ⟨h1, by omega, h3⟩
theorem back_mv {h : Int} {a a' b b' : St} {p : Ps} {u : Unit} (k1 : mvS h a a') (k2 : mvS h b b') (lb : b.dead = false) (e : back a b p = .ok u) : back a' b' p = .ok () := by
  unfold back at e ⊢
  split at e
  · rename_i hc
    refine if_pos ?_
    cases la : a.dead with
    | true => exact .inl (by rw [← k1.1]; exact la)
    | false =>
      rcases hc with hc | hc
      · rw [la] at hc; cases hc
      · exact .inr ((same_mv k1 k2 la lb).2 hc)
  · cases e
theorem choice_pc {th el : X → Re} (h1 : Pc th) (h2 : Pc el) (p : Ps) : Pc (choice th el p) := by
  have hs := step_pc 1 0 p
  have key : ∀ x y, choice th el p x = .ok y → ∃ z a b, step x 1 0 p = .ok z ∧ th z = .ok a ∧ el (a.1, z.2) = .ok b ∧ ((a.2.dead = true ∧ y = b) ∨ (a.2.dead = false ∧ (b.2.dead = true ∨ same a.2 b.2 = true) ∧ y = (b.1, a.2))) := by
    intro x y e
    unfold choice at e
    split at e
    · cases e
    rename_i z hz
    split at e
    · cases e
    rename_i a ha
    split at e
    · cases e
    rename_i b hb
    refine ⟨z, a, b, hz, ha, hb, ?_⟩
    split at e
    · rename_i c; cases e; exact .inl ⟨c, rfl⟩
    · rename_i c
      split at e
      · rename_i c2; cases e; exact .inr ⟨by simpa using c, c2, rfl⟩
      · cases e
  refine ⟨?_, ?_, ?_⟩
  · intro x y e
    obtain ⟨z, a, b, hz, ha, hb, hy⟩ := key x y e
    have l1 := ((hs.le x z hz).trans (h1.le z a ha)).trans (h2.le (a.1, z.2) b hb)
    rcases hy with ⟨_, rfl⟩ | ⟨_, _, rfl⟩ <;> exact l1
  · intro x y hx hl e
    obtain ⟨z, a, b, hz, ha, hb, hy⟩ := key x y e
    have lz : z.2.dead = false := (step_live hz).trans hl
    have z1 := hs.dn x z hx hl hz
    have a1 := h1.dn z a z1 lz ha
    have la := h1.le z a ha
    have b1 := h2.dn (a.1, z.2) b ⟨a1.i, a1.d, fun hh => by have := z1.h hh; have := la.2.1; simp only at *; omega⟩ lz hb
    have lb := h2.le (a.1, z.2) b hb
    rcases hy with ⟨_, rfl⟩ | ⟨hd, _, rfl⟩
    · exact b1
    · exact ⟨b1.i, b1.d, fun hh => by have := a1.h hh; have := lb.2.1; simp only at *; omega⟩
  · intro h W x x' y hW hx hl hm e
    obtain ⟨z, a, b, hz, ha, hb, hy⟩ := key x y e
    have lz : z.2.dead = false := (step_live hz).trans hl
    have z1 := hs.dn x z hx hl hz
    have a1 := h1.dn z a z1 lz ha
    have la := h1.le z a ha
    have az : Dn (a.1, z.2) := ⟨a1.i, a1.d, fun hh => by have := z1.h hh; have := la.2.1; simp only at *; omega⟩
    have lb : Le a.1 b.1 := h2.le (a.1, z.2) b hb
    have hyb : y.1 = b.1 := by rcases hy with ⟨_, rfl⟩ | ⟨_, _, rfl⟩ <;> rfl
    unfold choice
    rcases hs.mv h W x x' z hW hx hl hm hz with ⟨z', e1, k1⟩ | ⟨⟨q, e1⟩, k1⟩
    · try simp only at e1
      rw [e1]; simp only
      rcases h1.mv h W z z' a hW z1 lz k1 ha with ⟨a', e2, k2⟩ | ⟨⟨q, e2⟩, k2⟩
      · rw [e2]; simp only
        rcases h2.mv h W (a.1, z.2) (a'.1, z'.2) b hW az lz ⟨k2.w, k1.s⟩ hb with ⟨b', e3, k3⟩ | ⟨⟨q, e3⟩, k3⟩
        · rw [e3]; simp only
          rcases hy with ⟨hd, rfl⟩ | ⟨hd, hc, rfl⟩
          · rw [if_pos (by rw [← k2.s.1]; exact hd)]
            exact .inl ⟨b', rfl, k3⟩
          · rw [if_neg (by rw [← k2.s.1, hd]; decide)]
            have : b'.2.dead = true ∨ same a'.2 b'.2 = true := by
              cases hbd : b.2.dead with
              | true => exact .inl (by rw [← k3.s.1]; exact hbd)
              | false =>
                rcases hc with hc | hc
                · rw [hbd] at hc; cases hc
                · exact .inr ((same_mv k2.s k3.s hd hbd).2 hc)
            rw [if_pos this]
            exact .inl ⟨_, rfl, k3.w, k2.s⟩
        · rw [e3]
          exact .inr ⟨⟨q, rfl⟩, by rw [hyb]; exact k3⟩
      · rw [e2]
        exact .inr ⟨⟨q, rfl⟩, by rw [hyb]; exact may_down lb k2⟩
    · try simp only at e1
      rw [e1]
      exact .inr ⟨⟨q, rfl⟩, by rw [hyb]; exact may_down (la.trans lb) k1⟩
theorem until_pc {th : X → Re} (h1 : Pc th) (p : Ps) : Pc (until_ th p) := by
  have hs := step_pc 1 0 p
  have key : ∀ x y, until_ th p x = .ok y → ∃ a, th x = .ok a ∧ ((a.2.dead = true ∧ y = a) ∨ (a.2.dead = false ∧ step a 1 0 p = .ok y ∧ back y.2 x.2 p = .ok ())) := by
    intro x y e
    unfold until_ at e
    split at e
    · cases e
    rename_i a ha
    refine ⟨a, ha, ?_⟩
    split at e
    · rename_i c; cases e; exact .inl ⟨c, rfl⟩
    · rename_i c
      split at e
      · cases e
      rename_i b hb
      split at e
      · cases e
      rename_i u hu
      cases e
      exact .inr ⟨by simpa using c, hb, hu⟩
  refine ⟨?_, ?_, ?_⟩
  · intro x y e
    obtain ⟨a, ha, hy⟩ := key x y e
    rcases hy with ⟨_, rfl⟩ | ⟨_, hb, _⟩
    · exact h1.le x _ ha
    · exact (h1.le x a ha).trans (hs.le a y hb)
  · intro x y hx hl e
    obtain ⟨a, ha, hy⟩ := key x y e
    have a1 := h1.dn x a hx hl ha
    rcases hy with ⟨_, rfl⟩ | ⟨hd, hb, _⟩
    · exact a1
    · exact hs.dn a y a1 hd hb
  · intro h W x x' y hW hx hl hm e
    obtain ⟨a, ha, hy⟩ := key x y e
    have a1 := h1.dn x a hx hl ha
    unfold until_
    rcases h1.mv h W x x' a hW hx hl hm ha with ⟨a', e2, k2⟩ | ⟨⟨q, e2⟩, k2⟩
    · rw [e2]; simp only
      rcases hy with ⟨hd, rfl⟩ | ⟨hd, hb, hk⟩
      · rw [if_pos (by rw [← k2.s.1]; exact hd)]
        exact .inl ⟨_, rfl, k2⟩
      · rw [if_neg (by rw [← k2.s.1, hd]; decide)]
        rcases hs.mv h W a a' y hW a1 hd k2 hb with ⟨b', e3, k3⟩ | ⟨⟨q, e3⟩, k3⟩
        · try simp only at e3
          rw [e3]; simp only
          rw [back_mv k3.s hm.s hl hk]
          exact .inl ⟨b', rfl, k3⟩
        · try simp only at e3
          rw [e3]
          exact .inr ⟨⟨q, rfl⟩, k3⟩
    · rw [e2]
      refine .inr ⟨⟨q, rfl⟩, ?_⟩
      rcases hy with ⟨hd, rfl⟩ | ⟨hd, hb, hk⟩
      · exact k2
      · exact may_down (hs.le a y hb) k2
theorem while_pc {th el : X → Re} (h1 : Pc th) (h2 : Pc el) (p : Ps) : Pc (while_ th el p) := by
  have hs := step_pc 1 0 p
  have key : ∀ x y, while_ th el p x = .ok y → ∃ a, th x = .ok a ∧ ((a.2.dead = true ∧ y = a) ∨ (a.2.dead = false ∧ ∃ b c, step a 1 0 p = .ok b ∧ el b = .ok c ∧ back c.2 x.2 p = .ok () ∧ y = (c.1, b.2))) := by
    intro x y e
    unfold while_ at e
    split at e
    · cases e
    rename_i a ha
    refine ⟨a, ha, ?_⟩
    split at e
    · rename_i c; cases e; exact .inl ⟨c, rfl⟩
    · rename_i c
      split at e
      · cases e
      rename_i b hb
      split at e
      · cases e
      rename_i d hd
      split at e
      · cases e
      rename_i u hu
      cases e
      exact .inr ⟨by simpa using c, b, d, hb, hd, hu, rfl⟩
  refine ⟨?_, ?_, ?_⟩
  · intro x y e
    obtain ⟨a, ha, hy⟩ := key x y e
    rcases hy with ⟨_, rfl⟩ | ⟨_, b, c, hb, hc, _, rfl⟩
    · exact h1.le x _ ha
    · exact ((h1.le x a ha).trans (hs.le a b hb)).trans (h2.le b c hc)
  · intro x y hx hl e
    obtain ⟨a, ha, hy⟩ := key x y e
    have a1 := h1.dn x a hx hl ha
    rcases hy with ⟨_, rfl⟩ | ⟨hd, b, c, hb, hc, _, rfl⟩
    · exact a1
    · have b1 := hs.dn a b a1 hd hb
      have lb : b.2.dead = false := (step_live hb).trans hd
      have c1 := h2.dn b c b1 lb hc
      have := (h2.le b c hc).2.1
      exact ⟨c1.i, c1.d, fun hh => by have := b1.h hh; simp only at *; omega⟩
  · intro h W x x' y hW hx hl hm e
    obtain ⟨a, ha, hy⟩ := key x y e
    have a1 := h1.dn x a hx hl ha
    unfold while_
    rcases h1.mv h W x x' a hW hx hl hm ha with ⟨a', e2, k2⟩ | ⟨⟨q, e2⟩, k2⟩
    · rw [e2]; simp only
      rcases hy with ⟨hd, rfl⟩ | ⟨hd, b, c, hb, hc, hk, rfl⟩
      · rw [if_pos (by rw [← k2.s.1]; exact hd)]
        exact .inl ⟨_, rfl, k2⟩
      · rw [if_neg (by rw [← k2.s.1, hd]; decide)]
        have b1 := hs.dn a b a1 hd hb
        have lb : b.2.dead = false := (step_live hb).trans hd
        rcases hs.mv h W a a' b hW a1 hd k2 hb with ⟨b', e3, k3⟩ | ⟨⟨q, e3⟩, k3⟩
        · try simp only at e3
          rw [e3]; simp only
          rcases h2.mv h W b b' c hW b1 lb k3 hc with ⟨c', e4, k4⟩ | ⟨⟨q, e4⟩, k4⟩
          · rw [e4]; simp only
            rw [back_mv k4.s hm.s hl hk]
            exact .inl ⟨_, rfl, k4.w, k3.s⟩
          · rw [e4]
            exact .inr ⟨⟨q, rfl⟩, k4⟩
        · try simp only at e3
          rw [e3]
          exact .inr ⟨⟨q, rfl⟩, may_down (h2.le b c hc) k3⟩
    · rw [e2]
      refine .inr ⟨⟨q, rfl⟩, ?_⟩
      rcases hy with ⟨hd, rfl⟩ | ⟨hd, b, c, hb, hc, hk, rfl⟩
      · exact k2
      · exact may_down ((hs.le a b hb).trans (h2.le b c hc)) k2
theorem again_pc {th : X → Re} (h1 : Pc th) (p : Ps) : Pc (again th p) := by
  have key : ∀ x y, again th p x = .ok y → ∃ a, th x = .ok a ∧ back a.2 x.2 p = .ok () ∧ y = (a.1, ⟨true, 0, []⟩) := by
    intro x y e
    unfold again at e
    split at e
    · cases e
    rename_i a ha
    split at e
    · cases e
    rename_i u hu
    cases e
    exact ⟨a, ha, hu, rfl⟩
  refine ⟨?_, ?_, ?_⟩
  · intro x y e
    obtain ⟨a, ha, _, rfl⟩ := key x y e
    exact h1.le x a ha
  · intro x y hx hl e
    obtain ⟨a, ha, _, rfl⟩ := key x y e
    have a1 := h1.dn x a hx hl ha
    exact ⟨a1.i, a1.d, fun hh => by cases hh⟩
  · intro h W x x' y hW hx hl hm e
    obtain ⟨a, ha, hk, rfl⟩ := key x y e
    unfold again
    rcases h1.mv h W x x' a hW hx hl hm ha with ⟨a', e2, k2⟩ | ⟨⟨q, e2⟩, k2⟩
    · rw [e2]; simp only
      rw [back_mv k2.s hm.s hl hk]
      exact .inl ⟨_, rfl, k2.w, rfl, fun hh => by cases hh⟩
    · rw [e2]
      exact .inr ⟨⟨q, rfl⟩, k2⟩
theorem do_pc {th : X → Re} (h1 : Pc th) (p : Ps) : Pc (do_ th p) := by
  have hs := step_pc 2 0 p
  have hp := put_pc p [2, 3]
  have key : ∀ x y, do_ th p x = .ok y → ∃ b z a, step x 2 0 p = .ok b ∧ put b p [2, 3] = .ok z ∧ th z = .ok a ∧ back a.2 z.2 p = .ok () ∧ y = (a.1, { b.2 with dead := a.2.dead }) := by
    intro x y e
    unfold do_ at e
    split at e
    · cases e
    rename_i b hb
    split at e
    · cases e
    rename_i z hz
    split at e
    · cases e
    rename_i a ha
    split at e
    · cases e
    rename_i u hu
    cases e
    exact ⟨b, z, a, hb, hz, ha, hu, rfl⟩
  refine ⟨?_, ?_, ?_⟩
  · intro x y e
    obtain ⟨b, z, a, hb, hz, ha, _, rfl⟩ := key x y e
    exact ((hs.le x b hb).trans (hp.le b z hz)).trans (h1.le z a ha)
  · intro x y hx hl e
    obtain ⟨b, z, a, hb, hz, ha, _, rfl⟩ := key x y e
    have lb : b.2.dead = false := (step_live hb).trans hl
    have lz : z.2.dead = false := (put_live hz).trans lb
    have b1 := hs.dn x b hx hl hb
    have z1 := hp.dn b z b1 lb hz
    have a1 := h1.dn z a z1 lz ha
    have l1 := ((hp.le b z hz).trans (h1.le z a ha)).2.1
    exact ⟨a1.i, a1.d, fun hh => by have := b1.h lb; simp only at *; omega⟩
  · intro h W x x' y hW hx hl hm e
    obtain ⟨b, z, a, hb, hz, ha, hk, rfl⟩ := key x y e
    have lb : b.2.dead = false := (step_live hb).trans hl
    have lz : z.2.dead = false := (put_live hz).trans lb
    have b1 := hs.dn x b hx hl hb
    have z1 := hp.dn b z b1 lb hz
    unfold do_
    rcases hs.mv h W x x' b hW hx hl hm hb with ⟨b', e1, k1⟩ | ⟨⟨q, e1⟩, k1⟩
    · try simp only at e1
      rw [e1]; simp only
      rcases hp.mv h W b b' z hW b1 lb k1 hz with ⟨z', e2, k2⟩ | ⟨⟨q, e2⟩, k2⟩
      · try simp only at e2
        rw [e2]; simp only
        rcases h1.mv h W z z' a hW z1 lz k2 ha with ⟨a', e3, k3⟩ | ⟨⟨q, e3⟩, k3⟩
        · rw [e3]; simp only
          rw [back_mv k3.s k2.s lz hk]
          refine .inl ⟨_, rfl, k3.w, k3.s.1, fun _ => ?_⟩
          exact k1.s.2 lb
        · rw [e3]
          exact .inr ⟨⟨q, rfl⟩, k3⟩
      · try simp only at e2
        rw [e2]
        exact .inr ⟨⟨q, rfl⟩, may_down (h1.le z a ha) k2⟩
    · try simp only at e1
      rw [e1]
      exact .inr ⟨⟨q, rfl⟩, may_down ((hp.le b z hz).trans (h1.le z a ha)) k1⟩
theorem node_pc (kn : ByteArray → Option Ty) (hk : ∀ s t, kn s = some t → TD t) (names : List ByteArray) (n : Nd) : ∀ i, ck names n i = 0 → lv n = false → Pc (node kn n) :=
  Nd.ind (P := fun n => ∀ i, ck names n i = 0 → lv n = false → Pc (node kn n)) (fun n h1 h2 i hc hv => by
    obtain ⟨k1, k9, _, ht, he⟩ := ckp hc
    rw [lv_is, Bool.or_eq_false_iff, Bool.or_eq_false_iff] at hv
    obtain ⟨v1, v2, v3⟩ := hv
    have k8 : n.k ≤ 8 := by
      have : n.k ≠ 9 := by simpa using v1
      omega
    have pt : Pc (body kn n.th) := run_pc _ fun f hf => by
      obtain ⟨m, hm, rfl⟩ := List.mem_map.1 hf
      exact h1 m hm _ (cks_mem ht m hm) (lvs_mem v2 m hm)
    have pe : Pc (body kn n.el) := run_pc _ fun f hf => by
      obtain ⟨m, hm, rfl⟩ := List.mem_map.1 hf
      exact h2 m hm _ (cks_mem he m hm) (lvs_mem v3 m hm)
    rw [node_is]
    obtain h | h | h | h | h | h | h | h : n.k = 1 ∨ n.k = 2 ∨ n.k = 3 ∨ n.k = 4 ∨ n.k = 5 ∨ n.k = 6 ∨ n.k = 7 ∨ n.k = 8 := by omega
    · have : nodeB kn n.k n.op n.nm n.p (body kn n.th) (body kn n.el) = prim n.op n.p := by funext x; unfold nodeB; rw [h]; rfl
      rw [this]; exact prim_pc _ _
    · have : nodeB kn n.k n.op n.nm n.p (body kn n.th) (body kn n.el) = fun x => step x 0 1 n.p := by funext x; unfold nodeB; rw [h]; rfl
      rw [this]; exact step_pc _ _ _
    · have : nodeB kn n.k n.op n.nm n.p (body kn n.th) (body kn n.el) = call (kn n.nm) n.p := by funext x; unfold nodeB; rw [h]; rfl
      rw [this]; exact call_pc _ (fun t e => hk _ t e) _
    · have : nodeB kn n.k n.op n.nm n.p (body kn n.th) (body kn n.el) = choice (body kn n.th) (body kn n.el) n.p := by funext x; unfold nodeB; rw [h]; rfl
      rw [this]; exact choice_pc pt pe _
    · have : nodeB kn n.k n.op n.nm n.p (body kn n.th) (body kn n.el) = until_ (body kn n.th) n.p := by funext x; unfold nodeB; rw [h]; rfl
      rw [this]; exact until_pc pt _
    · have : nodeB kn n.k n.op n.nm n.p (body kn n.th) (body kn n.el) = while_ (body kn n.th) (body kn n.el) n.p := by funext x; unfold nodeB; rw [h]; rfl
      rw [this]; exact while_pc pt pe _
    · have : nodeB kn n.k n.op n.nm n.p (body kn n.th) (body kn n.el) = again (body kn n.th) n.p := by funext x; unfold nodeB; rw [h]; rfl
      rw [this]; exact again_pc pt _
    · have : nodeB kn n.k n.op n.nm n.p (body kn n.th) (body kn n.el) = do_ (body kn n.th) n.p := by funext x; unfold nodeB; rw [h]; rfl
      rw [this]; exact do_pc pt _) n
theorem body_pc (kn : ByteArray → Option Ty) (hk : ∀ s t, kn s = some t → TD t) (names : List ByteArray) (l : List Nd) (i : Nat × Bool) (hc : cks names l i = 0) (hv : lvs l = false) : Pc (body kn l) := run_pc _ fun f hf => by
  obtain ⟨m, hm, rfl⟩ := List.mem_map.1 hf
  exact node_pc kn hk names m i (cks_mem hc m hm) (lvs_mem hv m hm)
end Go.Proofs.YtlilefhmohkfkaaGreatDoor.E
/-! The law's small functions. -/
namespace Go.Proofs.YtlilefhmohkfkaaGreatDoor.E
open Go.RowKit
open Go.Proofs
open Go.Proofs.YtlilefhmohkfkaaGreatDoor.Y (Nd Df Ps ndc dfc hid NV DV D1 cells6 cells9 BV)
set_option linter.unusedVariables false
set_option linter.unusedSimpArgs false
set_option maxHeartbeats 2000000
set_option maxRecDepth 100000
theorem sizeNd : (Tryz.prog.info? 30).map (·.size) = some 9 := by kernel_rfl
theorem sizeDf : (Tryz.prog.info? 27).map (·.size) = some 6 := by kernel_rfl
theorem num_any (x : Int) (W : World) : Calls Tryz.prog 13 #[.int .i64 x] W fun e w' => e = .returned (.int .i64 x) ∧ w' = W := by
  go_enter Tryz.func13, Tryz.ntmps13
  go_wp2
  go_ret
  exact ⟨rfl, rfl⟩
theorem prim_law (op : Int) (W : World) : Calls Tryz.prog 26 #[.int .i64 op] W fun e w' => e = .returned (.agg #[.int .i64 1, .int .i64 op, .int .u16 0, .string ⟨#[]⟩, .slice none 0 0, .slice none 0 0, .bool false, .int .i64 0, .int .i64 0]) ∧ Below W.heap.size W w' := by
  go_enter Tryz.func26, Tryz.ntmps26
  go_wp2
  exact bodyPost_ret (results_cell_row rfl _ _ W.heap.size 30 _ (0, 0) _ rfl (heap_alloc_new W _) Tryz.underlying30 rfl sizeNd) rfl ⟨rfl, (Below.refl _ _).alloc (Nat.le_refl _) _⟩
theorem lit_law (x : Int) (W : World) : Calls Tryz.prog 27 #[.int .u16 x] W fun e w' => e = .returned (.agg #[.int .i64 2, .int .i64 0, .int .u16 x, .string ⟨#[]⟩, .slice none 0 0, .slice none 0 0, .bool false, .int .i64 0, .int .i64 0]) ∧ Below W.heap.size W w' := by
  go_enter Tryz.func27, Tryz.ntmps27
  go_wp2
  exact bodyPost_ret (results_cell_row rfl _ _ W.heap.size 30 _ (0, 0) _ rfl (heap_alloc_new W _) Tryz.underlying30 rfl sizeNd) rfl ⟨rfl, (Below.refl _ _).alloc (Nat.le_refl _) _⟩
theorem call_law (nm : ByteArray) (W : World) : Calls Tryz.prog 8 #[.string nm] W fun e w' => e = .returned (.agg #[.int .i64 3, .int .i64 0, .int .u16 0, .string nm, .slice none 0 0, .slice none 0 0, .bool false, .int .i64 0, .int .i64 0]) ∧ Below W.heap.size W w' := by
  go_enter Tryz.func8, Tryz.ntmps8
  go_wp2
  exact bodyPost_ret (results_cell_row rfl _ _ W.heap.size 30 _ (0, 0) _ rfl (heap_alloc_new W _) Tryz.underlying30 rfl sizeNd) rfl ⟨rfl, (Below.refl _ _).alloc (Nat.le_refl _) _⟩
theorem word_law (nm : ByteArray) (p : Option Addr) (n c : Nat) (W : World) : Calls Tryz.prog 7 #[.string nm, .slice p n c] W fun e w' => e = .returned (.agg #[.int .i64 1, .string nm, .int .u16 0, .slice p n c, .int .i64 0, .int .i64 0]) ∧ Below W.heap.size W w' := by
  go_enter Tryz.func7, Tryz.ntmps7
  go_wp2
  exact bodyPost_ret (results_cell_row rfl _ _ W.heap.size 27 _ (0, 0) _ rfl (heap_alloc_new W _) Tryz.underlying27 rfl sizeDf) rfl ⟨rfl, (Below.refl _ _).alloc (Nat.le_refl _) _⟩
def LVE (l : List Nd) : Prop := ∀ (v : Value) (O : Nat → Prop) (W : World), (∀ j, O j → j < W.heap.size) → NV W O v l →
  Calls Tryz.prog 10 #[v] W fun e w' => e = .returned (.bool (lvs l)) ∧ Below W.heap.size W w'
theorem lvs_take (l : List Nd) (k : Nat) (n : Nd) (h : l[k]? = some n) : lvs (l.take (k + 1)) = (lvs (l.take k) || lv n) := by
  unfold lvs
  rw [List.take_add_one, h, List.map_append, List.any_append]
  simp
theorem lvs_stop (l : List Nd) (k : Nat) (n : Nd) (h : l[k]? = some n) (hv : lv n = true) : lvs l = true := by
  unfold lvs
  exact List.any_eq_true.2 ⟨lv n, List.mem_map.2 ⟨n, List.mem_of_getElem? h, rfl⟩, hv⟩
theorem leaves_of (l : List Nd) (hn : ∀ m ∈ l, LVE m.th ∧ LVE m.el) : LVE l := by
  intro v O W hO hV
  obtain ⟨p, cc, rfl, hl, hp⟩ := hV.ex
  clear hV
  have HO := hid hO
  clear hO
  go_enter Tryz.func10, Tryz.ntmps10
  go_wp2
  go_loopw [7] (fun ix wr => ∃ k : Nat, k ≤ l.length ∧ ix = .int .i64 (k : Int) ∧ Below W.heap.size W wr ∧ lvs (l.take k) = false) (fun ix _ => l.length - (intOf ix).toNat)
  case atStart => exact ⟨0, by omega, rfl, Below.refl _ _, rfl⟩
  case round =>
    obtain ⟨k, hk, rfl, hb, hB⟩ := hrel
    by_cases hlt : k < l.length
    · have i1 : (k : Int) < l.length := by omega
      have ea := List.getElem?_eq_getElem hlt
      have hm := hn l[k] (List.getElem_mem _)
      generalize l[k] = n at *
      obtain ⟨b, o, rfl, hOb, hN⟩ := hp k n ea
      obtain ⟨tv, ev, hcl, ht, he⟩ := hN.ex
      obtain ⟨q1, d1, rfl, _, _⟩ := ht.ex
      obtain ⟨q2, d2, rfl, _, _⟩ := he.ex
      have kb := hb.block b (HO.out b hOb)
      obtain ⟨g0, g1, g2, g3, g4, g5, g6, g7, g8⟩ := cells9 fun j x hx => (World.cell?_of_block (w := W) (a := ⟨b, o + k * 9 + j, none⟩) kb).trans (hcl j x hx)
      obtain ⟨y, hy⟩ : ∃ y, wr.alloc (.cells #[.int .i64 n.k, .int .i64 n.op, .int .u16 n.v, .string n.nm, .slice q1 n.th.length d1, .slice q2 n.el.length d2, .bool n.has, .int .i64 n.p.1, .int .i64 n.p.2] 30) = y := ⟨_, rfl⟩
      have zb : Below wr.heap.size wr y := by rw [← hy]; exact (Below.refl _ _).alloc (Nat.le_refl _) _
      have vb : y.heap[wr.heap.size]? = some (.cells (ndc n (.slice q1 n.th.length d1) (.slice q2 n.el.length d2)).toArray 30 (0, 0)) := by rw [← hy]; exact heap_alloc_new wr _
      have hby : Below W.heap.size W y := hb.trans (zb.mono hb.size)
      have hc1 := hm.1 _ O y (fun j hj => Nat.lt_of_lt_of_le (HO.out j hj) hby.size) (ht.below hby HO.out)
      have hc2 : ∀ z, Below W.heap.size W z → _ := fun z hz => hm.2 _ O z (fun j hj => Nat.lt_of_lt_of_le (HO.out j hj) hz.size) (he.below hz HO.out)
      have HC2 := hid hc2
      have hst := lvs_take l k n ea
      rw [hB, Bool.false_or, lv_is] at hst
      have HV := hid (And.intro hby (And.intro vb (And.intro hst (lvs_stop l k n ea))))
      have Hk := hid hk
      obtain ⟨c0, c1, c2, c3, c4, c5, c6, c7, c8⟩ := nd_cells vb
      clear hc2 kb hcl ht he hN hm hp ea hb hB zb vb hby hst hk
      by_cases h9 : n.k = 9
      · have h9' : (n.k == 9) = true := by simp [h9]
        have HL : Y.Hd (lvs l = true) := ⟨HV.out.2.2.2 (by rw [lv_is, h9']; rfl)⟩
        have HBy := hid HV.out.1
        rw [h9] at c0
        clear hc1 HC2 h9 h9'
        go_wp2
        go_ret
        rw [HL.out]
        exact ⟨rfl, HBy.out⟩
      · have h9' : (n.k == 9) = false := by simp [h9]
        have H9 := hid h9'
        go_wp2_with fail
        refine hc1.mono ?_
        rintro e w1 ⟨rfl, hb1⟩
        have hbW : Below W.heap.size W w1 := HV.out.1.trans (hb1.mono HV.out.1.size)
        have v1 := (hb1.block _ (S.lt_of HV.out.2.1)).trans HV.out.2.1
        have hc2 := HC2.out w1 hbW
        clear hc1 hy g0 g1 g2 g3 g4 g5 g6 g7 g8 c0 c1 c2 c3 c4 c5 c6 c7 c8 h9 h9' HC2
        obtain ⟨c0, c1, c2, c3, c4, c5, c6, c7, c8⟩ := nd_cells v1
        have HW1 := hid hbW
        clear v1 hb1 hbW
        cases hlt1 : lvs n.th with
        | true =>
          have HL : Y.Hd (lvs l = true) := ⟨HV.out.2.2.2 (by rw [lv_is, H9.out, hlt1]; rfl)⟩
          clear hc2
          go_wp2
          go_ret
          rw [HL.out]
          exact ⟨rfl, HW1.out⟩
        | false =>
          go_wp2_with fail
          refine hc2.mono ?_
          rintro e w2 ⟨rfl, hb2⟩
          have HW2 := hid (HW1.out.trans (hb2.mono HW1.out.size))
          clear hc2 hb2 c0 c1 c2 c3 c4 c5 c6 c7 c8
          cases hlt2 : lvs n.el with
          | true =>
            have HL : Y.Hd (lvs l = true) := ⟨HV.out.2.2.2 (by rw [lv_is, H9.out, hlt1, hlt2]; rfl)⟩
            go_wp2
            go_ret
            rw [HL.out]
            exact ⟨rfl, HW2.out⟩
          | false =>
            have HL : Y.Hd (lvs (l.take (k + 1)) = false) := ⟨by rw [HV.out.2.2.1, H9.out, hlt1, hlt2]; rfl⟩
            go_wp2
            go_roundw
            case rel =>
              first
                | exact ⟨k + 1, by omega, by go_num, HW2.out, HL.out⟩
                | ((repeat apply Exists.intro); refine ⟨⟨k + 1, by omega, ?_, HW2.out, HL.out⟩, rfl⟩; go_num)
            case measure => simp [intOf]; omega
    · have i1 : ¬ (k : Int) < l.length := by omega
      rw [List.take_of_length_le (by omega)] at hB
      have HB := hid (And.intro hB hb)
      clear hB hb
      go_wp2
      go_ret
      rw [HB.out.1]
      exact ⟨rfl, HB.out.2⟩
theorem leaves_any (l : List Nd) : LVE l := leaves_of l fun m _ =>
  Nd.ind (P := fun n => LVE n.th ∧ LVE n.el) (fun n h1 h2 => ⟨leaves_of n.th h1, leaves_of n.el h2⟩) m
end Go.Proofs.YtlilefhmohkfkaaGreatDoor.E
