import Derived.Test.YteeanomkbclinaaYIter
/-! A range over the iterator, whose own variable lies between the loop's record and what the rounds make; drawn regions inside a round. -/
namespace Go.Proofs.Yteeanomkbclinaa.Y
open Go.RowKit Go.Shelf
open Go.Proofs
set_option linter.unusedVariables false
set_option linter.unusedSimpArgs false
set_option maxHeartbeats 2000000
set_option maxRecDepth 100000
/-- What is new, and what is written in three blocks from s on. -/
structure GN (s : Nat) (A A' : World) : Prop where
  os : A'.os = A.os
  tape : A'.tape = A.tape
  output : A'.output = A.output
  size : A.heap.size ≤ A'.heap.size
  block : ∀ i, i < A.heap.size → i ≠ s → i ≠ s + 1 → i ≠ s + 2 → A'.heap[i]? = A.heap[i]?
theorem GN.put (s : Nat) (A : World) (l : Nat) (o : Obj) (h : l = s ∨ l = s + 1 ∨ l = s + 2) : GN s A (A.putObj l o) :=
  ⟨rfl, rfl, rfl, by simp, fun i _ h0 h1 h2 => World.putObj_heap_other (by omega)⟩
theorem GN.gw {s : Nat} {A A' : World} (h : GW (s + 2) A A') : GN s A A' := ⟨h.os, h.tape, h.output, h.size, fun i hi _ _ h2 => h.block i hi h2⟩
/-- How the body of a round may be left. -/
def bodyEnd (s : Nat) (A : World) (I Ix : World → Prop) : Exit → Act → World → Prop
  | .normal, _, A3 => (∀ i, s ≤ i → i ≤ s + 2 → A3.heap[i]? = A.heap[i]?) ∧ I A3
  | .ret, _, A3 => (∀ i, s ≤ i → i ≤ s + 2 → A3.heap[i]? = A.heap[i]?) ∧ Ix A3
  | _, _, _ => False
theorem bodyEnd_out (s : Nat) (A : World) (I Ix : World → Prop) : ¬ LetsOut (bodyEnd s A I Ix) := fun ⟨_, _, h⟩ => h
theorem range_filled (n : Nat) (hn : 3 ≤ n) {g : Operand} {pr : Array Tmp} {assign body : Code} {Q : Exit → Act → World → Prop} {a : Act} {w : World} (c1 c2 : Nat)
    (hg : a.eval g = .func (.func 25) #[] #[.pointer (some ⟨c1, 0, none⟩), .pointer (some ⟨c2, 0, none⟩)]) (hpr : pr.size = 2)
    (dv : Value) (ds : List Df) (O : Nat → Prop) (I Ix : Nat → World → Prop)
    (hc1 : ∀ k A, I k A → A.heap[c1]? = some (.cells (rmc (0, 128, 0)).toArray 55 (0, 0)))
    (hc2 : ∀ k A, I k A → A.heap[c2]? = some (.cells #[dv] 29 (0, 0)))
    (hD : ∀ k A, I k A → DV A O dv ds) (hO : ∀ i, O i → i < w.heap.size)
    (hI : ∀ k A A', I k A → GN w.heap.size A A' → I k A') (hIx : ∀ k A A', Ix k A → GN w.heap.size A A' → Ix k A')
    (Ax : Nat → Df → Value → Act → World → Prop) (hAx : ∀ k d bv a' A A', Ax k d bv a' A → GN w.heap.size A A' → Ax k d bv a' A')
    (hassign : ∀ (l k : Nat) (d : Df) (bv : Value) (A : World) (K : Act → World → Prop), ds[k]? = some d → NV A O bv d.body → I k A → w.heap.size + 2 < A.heap.size → (∀ a' A', Below A.heap.size A A' → I k A' → Ax k d bv a' A' → K a' A') →
      assign.wpIn (Fence.wide.inRound l) (n - 1 - 1) Try.prog (Exit.then K (fun _ _ _ => False)) { tmps := (pr.zip #[.agg (dfc d bv).toArray, .agg (rmc (rms ds (k + 1))).toArray]).foldl (fun t (p, v) => t.setIfInBounds p v) a.tmps, defers := [] } A)
    (hbody : ∀ (l k : Nat) (d : Df) (bv : Value) (a' : Act) (A : World), ds[k]? = some d → NV A O bv d.body → I k A → w.heap.size + 2 < A.heap.size → Ax k d bv a' A →
      body.wpIn (Fence.wide.inRound l) (n - 1 - 1) Try.prog (bodyEnd w.heap.size A (I (k + 1)) (Ix (k + 1))) a' A)
    (h0 : I 0 w)
    (hdone : ∀ A, I ds.length A → A.heap[w.heap.size]? = some (.deferred (some [])) → Q .normal { a with defers := { target := .collected w.heap.size, args := #[] } :: a.defers } A)
    (hstop : ∀ k A, k < ds.length → Ix (k + 1) A → A.heap[w.heap.size]? = some (.deferred (some [])) → Code.ret.wpIn Fence.wide n Try.prog Q { a with defers := { target := .collected w.heap.size, args := #[] } :: a.defers } A) :
    (Code.rangeFunc g pr assign body).wpIn Fence.wide n Try.prog Q a w := by
  refine wpIn_rangeFunc ?_
  intro fn hfn
  obtain ⟨rec, hrec⟩ : ∃ rec : LoopState → Option Code → Loop, rec = fun st pe => { state := st, pending := pe, fn, tmps := a.tmps, params := pr, assign, body, defers := w.heap.size } := ⟨_, rfl⟩
  obtain ⟨W1, hW1⟩ : ∃ W1, W1 = (w.alloc (.deferred (some []))).alloc (.loop (rec .ready none)) := ⟨_, rfl⟩
  have sz1 : W1.heap.size = w.heap.size + 2 := by rw [hW1]; simp
  have hL1 : W1.heap[w.heap.size + 1]? = some (.loop (rec .ready none)) := by
    rw [hW1]
    have := World.alloc_heap_new (w.alloc (.deferred (some []))) (.loop (rec .ready none))
    rwa [World.size_alloc] at this
  have hK1 : W1.heap[w.heap.size]? = some (.deferred (some [])) := by
    rw [hW1]
    exact (Below.heap_alloc _ _ _ (by simp)).trans (World.alloc_heap_new w _)
  have hb1 : Below w.heap.size w W1 := by rw [hW1]; exact ((Below.refl _ w).alloc (Nat.le_refl _) _).alloc (by simp) _
  have hI1 : I 0 W1 := hI 0 w W1 h0 ⟨hb1.os, hb1.tape, hb1.output, hb1.size, fun i hi _ _ _ => hb1.block i hi⟩
  refine ⟨w.heap.size + 1, [{ target := .collected w.heap.size, args := #[] }], W1, { target := .fn (.func 25) #[.pointer (some ⟨c1, 0, none⟩), .pointer (some ⟨c2, 0, none⟩)], args := #[.func (.yield (w.heap.size + 1)) #[] #[]] }, W1, 25,
    #[.func (.yield (w.heap.size + 1)) #[] #[]] ++ #[.pointer (some ⟨c1, 0, none⟩), .pointer (some ⟨c2, 0, none⟩)], W1, ?_, ?_, fun _ _ => trivial, ?_, fun _ => by omega, ?_⟩
  · rw [hW1, hrec]
    exact run_enterLoop_outer _ _ _ _ _
  · simp only [resolve, hg]
    simp [go_sem]
  · simp [invoke, go_sem, Try.call25]
  · refine (filled_iter (n - 1) (by omega) (w.heap.size + 1) c1 c2 dv ds O
      (fun k A => I k A ∧ A.heap[w.heap.size + 1]? = some (.loop (rec .ready none)) ∧ A.heap[w.heap.size]? = some (.deferred (some [])))
      (fun k A => Ix k A ∧ A.heap[w.heap.size + 1]? = some (.loop (rec .done (some .ret))) ∧ A.heap[w.heap.size]? = some (.deferred (some [])))
      W1 (fun k A h => hc1 k A h.1) (fun k A h => hc2 k A h.1) (fun k A h => hD k A h.1) (fun i hi => by have := hO i hi; omega)
      (fun k A A' h hg => by
        rw [sz1] at hg
        have l1 := S.lt_of h.2.1
        exact ⟨hI k A A' h.1 (GN.gw hg), (hg.block _ l1 (by omega)).trans h.2.1, (hg.block _ (by omega) (by omega)).trans h.2.2⟩)
      ?_ ⟨hI1, hL1, hK1⟩).mono ?_
    · rintro k d bv A hd hn ⟨hi, hl, hk⟩ hB
      rw [sz1] at hB ⊢
      have hlt := S.lt_of hB
      refine ⟨fn, _, assign, body, (by have := run_yield (P := Try.prog) (args := #[.agg (dfc d bv).toArray, .agg (rmc (rms ds (k + 1))).toArray]) hl (by rw [hrec]; exact hpr.symm); rw [hrec] at this; exact this), roundIn_of_wpIn trivial (hassign (w.heap.size + 1) k d bv A _ hd hn hi hlt ?_)⟩
      intro a' A1 hkb hi1 hax
      have hl1 := (hkb.block _ (S.lt_of hl)).trans hl
      have hk1 := (hkb.block _ (S.lt_of hk)).trans hk
      have hb1' := hkb.block _ hlt
      have hs1 := hkb.size
      refine ⟨_, run_beginRound hl1 (by rw [hrec]), ?_⟩
      have hlt1 := S.lt_of hl1
      have gn : GN w.heap.size A1 (A1.putObj (w.heap.size + 1) (.loop { rec .ready none with state := .busy })) := GN.put _ _ _ _ (by omega)
      have hl2 : (A1.putObj (w.heap.size + 1) (.loop { rec .ready none with state := .busy })).heap[w.heap.size + 1]? = some (.loop { rec .ready none with state := .busy }) := World.putObj_heap_same hlt1
      have hk2 : (A1.putObj (w.heap.size + 1) (.loop { rec .ready none with state := .busy })).heap[w.heap.size]? = some (.deferred (some [])) := (World.putObj_heap_other (by omega)).trans hk1
      have hB2 : (A1.putObj (w.heap.size + 1) (.loop { rec .ready none with state := .busy })).heap[w.heap.size + 2]? = A.heap[w.heap.size + 2]? := (World.putObj_heap_other (by omega)).trans hb1'
      have hsz2 : (A1.putObj (w.heap.size + 1) (.loop { rec .ready none with state := .busy })).heap.size = A1.heap.size := by simp
      have hn2 : NV (A1.putObj (w.heap.size + 1) (.loop { rec .ready none with state := .busy })) O bv d.body := hn.kept (fun i hi => by have := hO i hi; exact (World.putObj_heap_other (by omega)).trans (hkb.block i (by omega))) fun _ h => h
      refine wpIn_mono (hbody (w.heap.size + 1) k d bv a' _ hd hn2 (hI k _ _ hi1 gn) (by rw [hsz2]; omega) (hAx k d bv a' _ _ hax gn)) ?_
      generalize hA2 : A1.putObj (w.heap.size + 1) (.loop { rec .ready none with state := .busy }) = A2 at *
      rintro e a3 A3 hp
      cases e with
      | normal =>
        obtain ⟨hk3, hi3⟩ := hp
        have hl3 := (hk3 (w.heap.size + 1) (by omega) (by omega)).trans hl2
        have hd3 := (hk3 w.heap.size (by omega) (by omega)).trans hk2
        have hb3 := (hk3 (w.heap.size + 2) (by omega) (by omega)).trans hB2
        refine ⟨_, _, run_endRound none hl3, .inl ⟨rfl, ⟨hI _ _ _ hi3 (GN.put _ _ _ _ (by omega)), ?_, (World.putObj_heap_other (by omega)).trans hd3⟩, (World.putObj_heap_other (by omega)).trans hb3⟩⟩
        rw [World.putObj_heap_same (S.lt_of hl3), hrec]
        rfl
      | ret =>
        obtain ⟨hk3, hi3⟩ := hp
        have hl3 := (hk3 (w.heap.size + 1) (by omega) (by omega)).trans hl2
        have hd3 := (hk3 w.heap.size (by omega) (by omega)).trans hk2
        refine ⟨_, _, run_endRound (some .ret) hl3, .inr ⟨rfl, hIx _ _ _ hi3 (GN.put _ _ _ _ (by omega)), ?_, (World.putObj_heap_other (by omega)).trans hd3⟩⟩
        rw [World.putObj_heap_same (S.lt_of hl3), hrec]
        rfl
      | exit id => exact hp.elim
      | goto t => exact hp.elim
      | panic ch => exact hp.elim
      | outgrown => exact hp.elim
    · rintro e W2 ⟨⟨v, rfl⟩, (⟨hi, hl, hk⟩ | ⟨k, hk', hi, hl, hk⟩)⟩
      · refine ⟨none, _, (by have := run_endLoop (P := Try.prog) hl (by rw [hrec]; simp); rw [hrec] at this; exact this), hdone _ (hI _ _ _ hi (GN.put _ _ _ _ (by omega))) ((World.putObj_heap_other (by omega)).trans hk)⟩
      · refine ⟨some .ret, _, (by have := run_endLoop (P := Try.prog) hl (by rw [hrec]; simp); rw [hrec] at this; exact this), hstop k _ hk' (hIx _ _ _ hi (GN.put _ _ _ _ (by omega))) ((World.putObj_heap_other (by omega)).trans hk)⟩
/-! ### A drawn region inside a round -/
theorem oper_in {P : Program} {l n : Nat} {o : Oper} {a : Act} {w : World} {K : Act → World → Prop} {Q : Exit → Act → World → Prop} (hd : ∀ c, o.op ≠ Op.defer c) (h : o.wp P a w K Q) : o.wpIn (Fence.wide.inRound l) n P a w K Q := by
  refine ⟨fun _ _ => trivial, ?_⟩
  rw [Oper.semAt_plain _ _ _ hd]
  unfold Oper.wp at h
  generalize (execOp a.eval o).run P w = r at h ⊢
  cases r with
  | ok x w' =>
    cases x with
    | value v => exact h
    | skip => exact h
    | defer d => exact h
    | enter f args => exact ⟨fun e => (by cases e), CallsIn.inRound l (callsIn_wide.2 h)⟩
    | row r args => exact ⟨fun e => (by cases e), fun c cs _ => let ⟨v, w2, r, s⟩ := h c cs; ⟨v, w2, r, stepsIn_wide.2 s⟩⟩
    | _ => exact h.elim
  | halt x w' => cases x <;> first | exact h | exact h.elim
theorem wpAny_in {P : Program} {md : Region.Mode} {ops : Array Oper} {Q : Exit → Act → World → Prop} {l n : Nat} (hd : ∀ (i : Nat) (o : Oper) c, ops[i]? = some o → o.op ≠ Op.defer c) (hQ : ¬ LetsOut Q) : ∀ (fuel : Nat) (listed : Array Bool) (a : Act) (w : World), wpAny P md ops Q fuel listed a w → wpAnyIn (Fence.wide.inRound l) n P md ops Q fuel listed a w
  | 0, _, _, _, h => h
  | fuel + 1, listed, a, w, h => by
    refine ⟨h.1, fun i hi => ?_⟩
    have h2 := h.2 i hi
    unfold wpOp at h2
    unfold wpOpIn
    cases ho : ops[i]? with
    | none =>
      rw [ho] at h2
      exact wpAny_in hd hQ fuel _ _ _ h2
    | some o =>
      rw [ho] at h2
      simp only at h2 ⊢
      split
      · rename_i hw
        rw [if_pos hw] at h2
        rcases h2 with h2 | ⟨_, h2⟩
        · exact Oper.wpIn_mono (fun a w h => wpAny_in hd hQ fuel _ a w h) (oper_in (fun c => hd i o c ho) h2)
        · exact absurd h2 hQ
      · rename_i hw
        rw [if_neg hw] at h2
        exact ⟨fun _ _ => trivial, wpAny_in hd hQ fuel _ _ _ h2⟩
theorem region_in {P : Program} {ops : Array Oper} {Q : Exit → Act → World → Prop} {S : World → Prop} {l n id : Nat} {a : Act} {w : World} (hm : P.follows .mixedOrders = true) (hd : ∀ (i : Nat) (o : Oper) c, ops[i]? = some o → o.op ≠ Op.defer c) (hQ : ¬ LetsOut Q)
    (hS : S w.drew) (h : S w.drew → wpAnyH P .any ops Q S ops.size (Array.replicate ops.size false) a w.drew) : (Code.region id ops true).wpIn (Fence.wide.inRound l) n P Q a w :=
  wpIn_region_any hm (wpAny_in hd hQ _ _ _ _ (wpAny_of_held _ _ _ _ (h hS)))
def noDefer (o : Oper) : Bool := match o.op with | .defer _ => false | _ => true
theorem region_in2 {P : Program} {ops : Array Oper} {Q : Exit → Act → World → Prop} {S : World → Prop} {l n id : Nat} {a : Act} {w : World} (hm : P.follows .mixedOrders = true) (hd : ops.toList.all noDefer = true) (hQ : ¬ LetsOut Q)
    (hS : S w.drew) (h : S w.drew → wpAnyH P .any ops Q S ops.size (Array.replicate ops.size false) a w.drew) : (Code.region id ops true).wpIn (Fence.wide.inRound l) n P Q a w :=
  region_in hm (fun i o c ho e => by
    have hmem : o ∈ ops.toList := by
      rw [Array.mem_toList_iff]
      exact Array.mem_of_getElem? ho
    have := List.all_eq_true.1 hd o hmem
    unfold noDefer at this
    rw [e] at this
    cases this) hQ hS h
end Go.Proofs.Yteeanomkbclinaa.Y
