import Derived.Test.YtlljelfplffglaaDoorHDrop
/-! The same where D waits for what is read by more than one step. -/
namespace Go.Proofs.YtlljelfplffglaaDoor.H
section
variable {G : Program} {ops : Array Oper} {Q : Exit → Act → World → Prop} {md : Region.Mode} {S : World → Prop} {D : List Nat}
def reach (md : Region.Mode) (ops : Array Oper) (i : Nat) : Nat → Nat → Bool
  | 0, _ => false
  | n + 1, d => match ops[d]? with | some o => o.after.any fun e => Region.binds md e && (e.on == i || reach md ops i n e.on) | none => false
def waitsT (md : Region.Mode) (ops : Array Oper) (D : List Nat) (i : Nat) : Bool := D.all fun d => d != i && reach md ops i 6 d
/-- What has been done, has been done behind all that it waits for. -/
def Cl (md : Region.Mode) (ops : Array Oper) (l : Array Bool) : Prop := ∀ (m : Nat) (o : Oper), ops[m]? = some o → l.getD m false = true → ∀ e ∈ o.after, Region.binds md e = true → l.getD e.on false = true
def closedB (md : Region.Mode) (ops : Array Oper) (l : Array Bool) : Bool := (List.range ops.size).all fun m => !(l.getD m false) || (match ops[m]? with | some o => o.after.all fun e => !Region.binds md e || l.getD e.on false | none => true)
theorem closedB_spec {l : Array Bool} (h : closedB md ops l = true) : Cl md ops l := by
  intro m o ho hm e he hb
  have hlt : m < ops.size := (Array.getElem?_eq_some_iff.1 ho).1
  have := List.all_eq_true.1 h m (List.mem_range.2 hlt)
  rw [hm, ho] at this
  simp only [Bool.not_true, Bool.false_or, Array.all_eq_true] at this
  obtain ⟨k, hk, rfl⟩ := Array.getElem_of_mem he
  have h2 := this k hk
  rw [hb] at h2
  simpa using h2
theorem reach_done {l : Array Bool} {i : Nat} (hC : Cl md ops l) : ∀ (n d : Nat) (o : Oper), ops[d]? = some o → reach md ops i n d = true → (∀ e ∈ o.after, Region.binds md e = true → l.getD e.on false = true) → l.getD i false = true
  | 0, d, o, ho, h, _ => by simp [reach] at h
  | n + 1, d, o, ho, h, hall => by
    rw [reach, ho] at h
    simp only [Array.any_eq_true, Bool.and_eq_true, Bool.or_eq_true] at h
    obtain ⟨k, hk, hb, h2⟩ := h
    have hd := hall _ (Array.getElem_mem hk) hb
    rcases h2 with h2 | h2
    · rw [eq_of_beq h2] at hd; exact hd
    · cases ho2 : ops[o.after[k].on]? with
      | none => cases n <;> simp [reach, ho2] at h2
      | some o2 => exact reach_done hC n _ o2 ho2 h2 fun e he hb2 => hC _ o2 ho2 hd e he hb2
theorem getD_set_keep {l : Array Bool} {j k : Nat} (h : l.getD k false = true) : (l.setIfInBounds j true).getD k false = true := by
  simp only [Array.getD_eq_getD_getElem?, Array.getElem?_setIfInBounds] at h ⊢
  split
  · rename_i e; subst e
    split <;> simp_all
  · exact h
theorem Cl.set {l : Array Bool} {j : Nat} {oj : Oper} (hC : Cl md ops l) (hoj : ops[j]? = some oj) (hall : ∀ e ∈ oj.after, Region.binds md e = true → l.getD e.on false = true) : Cl md ops (l.setIfInBounds j true) := by
  intro m o ho hm e he hb
  by_cases hj : j = m
  · subst hj
    rw [hoj] at ho
    cases ho
    exact getD_set_keep (hall e he hb)
  · refine getD_set_keep (hC m o ho ?_ e he hb)
    simp only [Array.getD_eq_getD_getElem?, Array.getElem?_setIfInBounds] at hm ⊢
    rw [if_neg hj] at hm
    exact hm
theorem wpD_firstT {i : Nat} {oi : Oper} {v : Value} (hi : ops[i]? = some oi) (hsel : ∀ (j : Nat) (o : Oper) cs b, ops[j]? = some o → o.op ≠ .select cs b)
    (hQ : ∀ c a w, Q (.panic c) (a.put oi.dst v) w → Q (.panic c) a w) (hD : waitsT md ops D i = true) (n : Nat) :
    ∀ (l : Array Bool) (a : Act) (w : World), Cl md ops l → (∀ j oj, ops[j]? = some oj → j ≠ i → l.getD j true = false → (∀ e ∈ oj.after, Region.binds md e = true → e.on ≠ i) → oi.apart ops oj = true) →
      i ∈ Region.ready md ops l → YieldsIf G ops S oi v a → Un D l → S w → wpD G md ops Q S D n (l.setIfInBounds i true) (a.put oi.dst v) w → wpD G md ops Q S D (n + 1) l a w := by
  have none0 : ∀ {l : Array Bool}, i ∈ Region.ready md ops l → Region.ready md ops l = [] → False := fun h e => by rw [e] at h; cases h
  have hiD : i ∉ D := fun hi => by
    have := List.all_eq_true.1 hD i hi
    simp at this
  induction n with
  | zero =>
    intro l a w hC hf hr hy hu hS H
    refine ⟨fun e => (none0 hr e).elim, fun j hj => ?_⟩
    by_cases e : j = i
    · rw [e]; exact hy.wpOp hi hS ⟨fun _ => hS, H⟩
    · have h0 := ready_mono hj e
      rw [H.1] at h0
      cases h0
  | succ n ih =>
    intro l a w hC hf hr hy hu hS H
    refine ⟨fun e => (none0 hr e).elim, fun j hj => ?_⟩
    by_cases e : j = i
    · rw [e]; exact hy.wpOp hi hS ⟨fun _ => hS, H⟩
    · obtain ⟨hjun, oj, hoj, hall⟩ := mem_ready.1 hj
      have hiun := (mem_ready.1 hr).1
      have hnot : ¬ l.getD i false = true := fun h1 => by
        rcases Nat.lt_or_ge i l.size with g | g
        · simp [g] at hiun h1; rw [hiun] at h1; cases h1
        · simp [Array.getElem?_eq_none g] at h1
      have hfar : ∀ x ∈ oj.after, Region.binds md x = true → x.on ≠ i := fun x hx hb he => by
        have h1 := hall x hx hb
        rw [he] at h1
        exact hnot h1
      have hjD : j ∉ D := fun h => by
        have h3 := List.all_eq_true.1 hD j h
        simp only [Bool.and_eq_true] at h3
        exact hnot (reach_done hC 6 j oj hoj h3.2 hall)
      have uj : Un D (l.setIfInBounds j true) := un_set hu hjD
      have uij : Un D ((l.setIfInBounds i true).setIfInBounds j true) := un_set (un_set hu hiD) hjD
      have hstep := wpOp_putIf hoj (hf j oj hoj e hjun hfar) (fun cs b => hsel i oi cs b hi) (fun cs b => hsel j oj cs b hoj) hQ hy (H.2 j (ready_mono hj e))
      refine wpOp_mono (fun b u k => ?_) hstep
      have hSu : S u := k.2.1 uij
      refine ⟨fun _ => hSu, ih _ b u (hC.set hoj hall) (fun m om hm hmi hun hno => hf m om hm hmi ?_ hno) (ready_mono hr (Ne.symm e)) k.1 uj hSu ?_⟩
      · by_cases hjm : j = m
        · rw [← hjm]; exact hjun
        · rw [getD_set_ne true hjm] at hun; exact hun
      · rw [Array.setIfInBounds_comm _ _ e]
        exact k.2.2
/-- Number i is taken first. -/
theorem wpD_takeT {i : Nat} {oi : Oper} {v : Value} {n : Nat} {l : Array Bool} {a : Act} {w : World} (hi : ops[i]? = some oi) (hs : Region.noSelect ops = true) (hf : Region.free md ops l i = true)
    (hr : (Region.ready md ops l).contains i = true) (hD : waitsT md ops D i = true) (hC : closedB md ops l = true) (hu : (D.all fun d => !(l.getD d true)) = true) (hQ : ∀ c a w, Q (.panic c) (a.put oi.dst v) w → Q (.panic c) a w) (hy : YieldsIf G ops S oi v a) (hS : S w)
    (h : wpD G md ops Q S D n (l.setIfInBounds i true) (a.put oi.dst v) w) : wpD G md ops Q S D (n + 1) l a w :=
  wpD_firstT hi (Region.noSelect_spec hs) hQ hD n l a w (closedB_spec hC) (Region.free_spec hi hf) (by simpa using hr) hy (fun d hd => by simpa using List.all_eq_true.1 hu d hd) hS h
theorem un_off {l : Array Bool} {p : Prop} (h : (D.any fun d => l.getD d true) = true) (u : Un D l) : p := by
  obtain ⟨d, hd, e⟩ := List.any_eq_true.1 h
  rw [u d hd] at e
  cases e
/-- An operation that looks at no memory: it is taken whenever it is ready. -/
theorem wpD_firstP {i : Nat} {oi : Oper} {v : Value} (hi : ops[i]? = some oi) (hsel : ∀ (j : Nat) (o : Oper) cs b, ops[j]? = some o → o.op ≠ .select cs b)
    (hQ : ∀ c a w, Q (.panic c) (a.put oi.dst v) w → Q (.panic c) a w) (hiD : i ∉ D) (n : Nat) :
    ∀ (l : Array Bool) (a : Act) (w : World), (∀ j oj, ops[j]? = some oj → j ≠ i → l.getD j true = false → (∀ e ∈ oj.after, Region.binds md e = true → e.on ≠ i) → oi.apart ops oj = true) →
      i ∈ Region.ready md ops l → YieldsIf G ops (fun _ => True) oi v a → (Un D l → S w) → wpD G md ops Q S D n (l.setIfInBounds i true) (a.put oi.dst v) w → wpD G md ops Q S D (n + 1) l a w := by
  have none0 : ∀ {l : Array Bool}, i ∈ Region.ready md ops l → Region.ready md ops l = [] → False := fun h e => by rw [e] at h; cases h
  have hun0 : ∀ {l : Array Bool}, Un D (l.setIfInBounds i true) → Un D l := fun {l} h d hd => by
    have hne : i ≠ d := fun e => hiD (e ▸ hd)
    have := h d hd
    rw [getD_set_ne true hne] at this
    exact this
  induction n with
  | zero =>
    intro l a w hf hr hy hS H
    refine ⟨fun e => (none0 hr e).elim, fun j hj => ?_⟩
    by_cases e : j = i
    · rw [e]; exact hy.wpOp hi trivial ⟨fun h => hS (hun0 h), H⟩
    · have h0 := ready_mono hj e
      rw [H.1] at h0
      cases h0
  | succ n ih =>
    intro l a w hf hr hy hS H
    refine ⟨fun e => (none0 hr e).elim, fun j hj => ?_⟩
    by_cases e : j = i
    · rw [e]; exact hy.wpOp hi trivial ⟨fun h => hS (hun0 h), H⟩
    · obtain ⟨hjun, oj, hoj, hall⟩ := mem_ready.1 hj
      have hiun := (mem_ready.1 hr).1
      have hfar : ∀ x ∈ oj.after, Region.binds md x = true → x.on ≠ i := fun x hx hb he => by
        have h1 := hall x hx hb
        rw [he] at h1
        rcases Nat.lt_or_ge i l.size with g | g
        · simp [g] at hiun h1; rw [hiun] at h1; cases h1
        · simp [Array.getElem?_eq_none g] at h1
      have hstep := wpOp_putIf hoj (hf j oj hoj e hjun hfar) (fun cs b => hsel i oi cs b hi) (fun cs b => hsel j oj cs b hoj) hQ hy (H.2 j (ready_mono hj e))
      refine wpOp_mono (fun b u k => ?_) hstep
      have hSu : Un D (l.setIfInBounds j true) → S u := fun h => k.2.1 (by rw [Array.setIfInBounds_comm _ _ (Ne.symm e)]; exact un_set h hiD)
      refine ⟨hSu, ih _ b u (fun m om hm hmi hun hno => hf m om hm hmi ?_ hno) (ready_mono hr (Ne.symm e)) k.1 hSu ?_⟩
      · by_cases hjm : j = m
        · rw [← hjm]; exact hjun
        · rw [getD_set_ne true hjm] at hun; exact hun
      · rw [Array.setIfInBounds_comm _ _ e]
        exact k.2.2
theorem wpD_takeP {i : Nat} {oi : Oper} {v : Value} {n : Nat} {l : Array Bool} {a : Act} {w : World} (hi : ops[i]? = some oi) (hs : Region.noSelect ops = true) (hf : Region.free md ops l i = true)
    (hr : (Region.ready md ops l).contains i = true) (hD : D.contains i = false) (hQ : ∀ c a w, Q (.panic c) (a.put oi.dst v) w → Q (.panic c) a w) (hy : YieldsIf G ops (fun _ => True) oi v a) (hS : Un D l → S w)
    (h : wpD G md ops Q S D n (l.setIfInBounds i true) (a.put oi.dst v) w) : wpD G md ops Q S D (n + 1) l a w :=
  wpD_firstP hi (Region.noSelect_spec hs) hQ (fun h => by rw [List.contains_iff_mem.2 h] at hD; cases hD) n l a w (Region.free_spec hi hf) (by simpa using hr) hy hS h
end
end Go.Proofs.YtlljelfplffglaaDoor.H
