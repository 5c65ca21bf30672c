import Derived.Test.YtoemoiehjdmheaaGreatProg
import Derived.Deep.RegionHeld
namespace Go.Proofs.YtoemoiehjdmheaaGreat.D
section
variable {G : Program} {ops : Array Oper} {Q : Exit -> Act -> World -> Prop} {md : Region.Mode} {S : World -> Prop} {D : List Nat}
def Un (D : List Nat) (l : Array Bool) : Prop := ∀ d, d ∈ D -> l.getD d true = false
def wpD (G : Program) (md : Region.Mode) (ops : Array Oper) (Q : Exit -> Act -> World -> Prop) (S : World -> Prop) (D : List Nat) : Nat -> Array Bool -> Act -> World -> Prop
 | 0, l, a, w => Region.ready md ops l = [] /\ Q .normal a w
 | n + 1, l, a, w => (Region.ready md ops l = [] -> Q .normal a w) /\ ∀ j, j ∈ Region.ready md ops l -> wpOp G ops Q j (fun b u => (Un D (l.setIfInBounds j true) -> S u) /\ wpD G md ops Q S D n (l.setIfInBounds j true) b u) a w
theorem wpD_any : ∀ (n : Nat) (l : Array Bool) (a : Act) (w : World), wpD G md ops Q S D n l a w -> wpAny G md ops Q n l a w
 | 0, _, _, _, h => h
 | n + 1, _, _, _, h => ⟨h.1, fun j hj => wpOp_mono (fun b u k => wpD_any n _ b u k.2) (h.2 j hj)⟩
theorem un_set {l : Array Bool} {j : Nat} (h : Un D l) (hj : j ∉ D) : Un D (l.setIfInBounds j true) := fun d hd => by
 have hne : j ≠ d := fun e => hj (e ▸ hd)
 rw [getD_set_ne true hne]
 exact h d hd
def waits (md : Region.Mode) (ops : Array Oper) (D : List Nat) (i : Nat) : Bool := D.all fun d => d != i && (match ops[d]? with | some o => o.after.any fun e => Region.binds md e && e.on == i | none => false)
theorem waits_ne {i : Nat} (h : waits md ops D i = true) : i ∉ D := fun hi => by
 have := List.all_eq_true.1 h i hi
 simp at this
theorem waits_on {i d : Nat} {o : Oper} (h : waits md ops D i = true) (hd : d ∈ D) (ho : ops[d]? = some o) : ∃ e ∈ o.after, Region.binds md e = true /\ e.on = i := by
 have := List.all_eq_true.1 h d hd
 simp only [ho, Bool.and_eq_true, Array.any_eq_true] at this
 obtain ⟨_, k, hk, h1, h2⟩ := this
 exact ⟨_, Array.getElem_mem hk, h1, by simpa using h2⟩
theorem wpD_first {i : Nat} {oi : Oper} {v : Value} (hi : ops[i]? = some oi) (hsel : ∀ (j : Nat) (o : Oper) cs b, ops[j]? = some o -> o.op ≠ .select cs b)
  (hQ : ∀ c a w, Q (.panic c) (a.put oi.dst v) w -> Q (.panic c) a w) (hD : waits md ops D i = true) (n : Nat) :
  ∀ (l : Array Bool) (a : Act) (w : World), (∀ j oj, ops[j]? = some oj -> j ≠ i -> l.getD j true = false -> (∀ e ∈ oj.after, Region.binds md e = true -> e.on ≠ i) -> oi.apart ops oj = true) ->
   i ∈ Region.ready md ops l -> YieldsIf G ops S oi v a -> Un D l -> S w -> wpD G md ops Q S D n (l.setIfInBounds i true) (a.put oi.dst v) w -> wpD G md ops Q S D (n + 1) l a w := by
 have none0 : ∀ {l : Array Bool}, i ∈ Region.ready md ops l -> Region.ready md ops l = [] -> False := fun h e => by rw [e] at h; cases h
 induction n with
 | zero =>
  intro l a w hf hr hy hu hS H
  refine ⟨fun e => (none0 hr e).elim, fun j hj => ?_⟩
  by_cases e : j = i
  ·rw [e]; exact hy.wpOp hi hS ⟨fun _ => hS, H⟩
  ·have h0 := ready_mono hj e
   rw [H.1] at h0
   cases h0
 | succ n ih =>
  intro l a w hf hr hy hu hS H
  refine ⟨fun e => (none0 hr e).elim, fun j hj => ?_⟩
  by_cases e : j = i
  ·rw [e]; exact hy.wpOp hi hS ⟨fun _ => hS, H⟩
  ·obtain ⟨hjun, oj, hoj, hall⟩ := mem_ready.1 hj
   have hiun := (mem_ready.1 hr).1
   have hfar : ∀ x ∈ oj.after, Region.binds md x = true -> x.on ≠ i := fun x hx hb he => by
    have h1 := hall x hx hb
    rw [he] at h1
    rcases Nat.lt_or_ge i l.size with g | g
    ·simp [g] at hiun h1; rw [hiun] at h1; cases h1
    ·simp [Array.getElem?_eq_none g] at h1
   have hjD : j ∉ D := fun h => by
    obtain ⟨x, hx, hb, he⟩ := waits_on hD h hoj
    exact hfar x hx hb he
   have uj : Un D (l.setIfInBounds j true) := un_set hu hjD
   have uij : Un D ((l.setIfInBounds i true).setIfInBounds j true) := un_set (un_set hu (waits_ne hD)) hjD
   have hstep := wpOp_putIf hoj (hf j oj hoj e hjun hfar) (fun cs b => hsel i oi cs b hi) (fun cs b => hsel j oj cs b hoj) hQ hy (H.2 j (ready_mono hj e))
   refine wpOp_mono (fun b u k => ?_) hstep
   have hSu : S u := k.2.1 uij
   refine ⟨fun _ => hSu, ih _ b u (fun m om hm hmi hun hno => hf m om hm hmi ?_ hno) (ready_mono hr (Ne.symm e)) k.1 uj hSu ?_⟩
   ·by_cases hjm : j = m
    ·rw [<- hjm]; exact hjun
    ·rw [getD_set_ne true hjm] at hun; exact hun
   ·rw [Array.setIfInBounds_comm _ _ e]
    exact k.2.2
theorem wpD_take {i : Nat} {oi : Oper} {v : Value} {n : Nat} {l : Array Bool} {a : Act} {w : World} (hi : ops[i]? = some oi) (hs : Region.noSelect ops = true) (hf : Region.free md ops l i = true)
  (hr : (Region.ready md ops l).contains i = true) (hD : waits md ops D i = true) (hu : (D.all fun d => !(l.getD d true)) = true) (hQ : ∀ c a w, Q (.panic c) (a.put oi.dst v) w -> Q (.panic c) a w) (hy : YieldsIf G ops S oi v a) (hS : S w)
  (h : wpD G md ops Q S D n (l.setIfInBounds i true) (a.put oi.dst v) w) : wpD G md ops Q S D (n + 1) l a w :=
 wpD_first hi (Region.noSelect_spec hs) hQ hD n l a w (Region.free_spec hi hf) (by simpa using hr) hy (fun d hd => by simpa using List.all_eq_true.1 hu d hd) hS h
def AllD (G : Program) (md : Region.Mode) (ops : Array Oper) (Q : Exit -> Act -> World -> Prop) (S : World -> Prop) (D : List Nat) (n : Nat) (l : Array Bool) (a : Act) (w : World) (rs : List Nat) : Prop :=
 ∀ j, j ∈ rs -> wpOp G ops Q j (fun b u => (Un D (l.setIfInBounds j true) -> S u) /\ wpD G md ops Q S D n (l.setIfInBounds j true) b u) a w
theorem AllD.nil {n : Nat} {l : Array Bool} {a : Act} {w : World} : AllD G md ops Q S D n l a w [] := fun _ h => by cases h
theorem AllD.cons {n : Nat} {l : Array Bool} {a : Act} {w : World} {i : Nat} {o : Oper} {rs : List Nat} (ho : ops[i]? = some o)
  (h : ∀ K : Act -> World -> Prop, Shut (∀ b u, S u -> (S u -> wpD G md ops Q S D n (l.setIfInBounds i true) b u) -> K b u) -> if Region.wanted o (yielded ops a.tmps) = true then Oper.wp G o a w K Q else K (a.put o.dst undef) w)
  (hs : AllD G md ops Q S D n l a w rs) : AllD G md ops Q S D n l a w (i :: rs) := fun j hj => by
 rcases List.mem_cons.1 hj with rfl | hj
 ·exact wpOp_step ho fun K hK => h K fun b u hS hW => hK b u ⟨fun _ => hS, hW hS⟩
 ·exact hs j hj
theorem AllD.late {n : Nat} {l : Array Bool} {a : Act} {w : World} {i : Nat} {o : Oper} (ho : ops[i]? = some o) (hD : (D.any fun d => (l.setIfInBounds i true).getD d true) = true)
  (h : ∀ K : Act -> World -> Prop, Shut (∀ b u, wpD G md ops Q S D n (l.setIfInBounds i true) b u -> K b u) -> if Region.wanted o (yielded ops a.tmps) = true then Oper.wp G o a w K Q else K (a.put o.dst undef) w) : AllD G md ops Q S D n l a w [i] := fun j hj => by
 rcases List.mem_cons.1 hj with rfl | hj
 ·refine wpOp_step ho fun K hK => h K fun b u hW => hK b u ⟨fun un => ?_, hW⟩
  obtain ⟨d, hd, e⟩ := List.any_eq_true.1 hD
  rw [un d hd] at e
  cases e
 ·cases hj
theorem wpD_ready {rs : List Nat} {n : Nat} {l : Array Bool} {a : Act} {w : World} (hr : Region.ready md ops l = rs) (hne : rs ≠ []) (h : AllD G md ops Q S D n l a w rs) : wpD G md ops Q S D (n + 1) l a w :=
 ⟨fun h0 => absurd (hr ▸ h0) hne, hr ▸ h⟩
theorem wpD_done {l : Array Bool} {a : Act} {w : World} (hr : Region.ready md ops l = []) (h : Q .normal a w) : ∀ n, wpD G md ops Q S D n l a w
 | 0 => ⟨hr, h⟩
 | _ + 1 => ⟨fun _ => h, by rw [hr]; simp⟩
theorem wp_region_drop {id : Nat} {a : Act} {w : World} (D : List Nat) (hm : G.follows .mixedOrders = true) (hS : S w.drew) (h : S w.drew -> wpD G .any ops Q S D ops.size (Array.replicate ops.size false) a w.drew) : (Code.region id ops true).wp G Q a w :=
 wp_region_any hm (wpD_any _ _ _ _ (h hS))
def wpD_D (_ : List Nat) (G : Program) (md : Region.Mode) (ops : Array Oper) (Q : Exit -> Act -> World -> Prop) (S : World -> Prop) (D : List Nat) (n : Nat) (l : Array Bool) (a : Act) (w : World) : Prop := wpD G md ops Q S D n l a w
theorem zD {is : List Nat} {n : Nat} {l : Array Bool} {a : Act} {w : World} (h : wpD_D is G md ops Q S D n l a w) : wpD G md ops Q S D n l a w := h
theorem eD {n : Nat} {l : Array Bool} {a : Act} {w : World} (h : wpD G md ops Q S D n l a w) : wpD_D [] G md ops Q S D n l a w := h
theorem xD (i : Nat) {oi : Oper} {v : Value} {n : Nat} {l : Array Bool} {a : Act} {w : World} (hi : ops[i]? = some oi) (hb : (Region.noSelect ops && Region.free md ops l i && (Region.ready md ops l).contains i && waits md ops D i && D.all fun d => !(l.getD d true)) = true) (hQ : ∀ c a w, Q (.panic c) (a.put oi.dst v) w -> Q (.panic c) a w) (hw : Region.wanted oi (yielded ops a.tmps) = true) (hy : ∀ w, S w -> (execOp a.eval oi).run G w = .ok (.value v) w) (hS : S w)
 (h : wpD G md ops Q S D n (l.setIfInBounds i true) (a.put oi.dst v) w) : wpD G md ops Q S D (n + 1) l a w := by
 simp only [Bool.and_eq_true] at hb
 exact wpD_take hi hb.1.1.1.1 hb.1.1.1.2 hb.1.1.2 hb.1.2 hb.2 hQ (.inl ⟨hw, hy⟩) hS h
theorem yD {i : Nat} {is : List Nat} {oi : Oper} {v : Value} {n : Nat} {l : Array Bool} {a : Act} {w : World} (hi : ops[i]? = some oi) (hb : (Region.noSelect ops && Region.free md ops l i && (Region.ready md ops l).contains i && waits md ops D i && D.all fun d => !(l.getD d true)) = true) (hQ : ∀ c a w, Q (.panic c) (a.put oi.dst v) w -> Q (.panic c) a w) (hw : Region.wanted oi (yielded ops a.tmps) = true) (hy : ∀ w, S w -> (execOp a.eval oi).run G w = .ok (.value v) w) (hS : S w)
 (h : wpD_D is G md ops Q S D n (l.setIfInBounds i true) (a.put oi.dst v) w) : wpD_D (i :: is) G md ops Q S D (n + 1) l a w := xD i hi hb hQ hw hy hS h
def wpH_ (_ : List Nat) (G : Program) (md : Region.Mode) (ops : Array Oper) (Q : Exit -> Act -> World -> Prop) (S : World -> Prop) (n : Nat) (l : Array Bool) (a : Act) (w : World) : Prop := wpAnyH G md ops Q S n l a w
theorem zH {is : List Nat} {n : Nat} {l : Array Bool} {a : Act} {w : World} (h : wpH_ is G md ops Q S n l a w) : wpAnyH G md ops Q S n l a w := h
theorem eH {n : Nat} {l : Array Bool} {a : Act} {w : World} (h : wpAnyH G md ops Q S n l a w) : wpH_ [] G md ops Q S n l a w := h
theorem xH (i : Nat) {oi : Oper} {v : Value} {n : Nat} {l : Array Bool} {a : Act} {w : World} (hi : ops[i]? = some oi) (hb : (Region.noSelect ops && Region.free md ops l i && (Region.ready md ops l).contains i) = true) (hQ : ∀ c a w, Q (.panic c) (a.put oi.dst v) w -> Q (.panic c) a w) (hw : Region.wanted oi (yielded ops a.tmps) = true) (hy : ∀ w, S w -> (execOp a.eval oi).run G w = .ok (.value v) w) (hS : S w)
 (h : wpAnyH G md ops Q S n (l.setIfInBounds i true) (a.put oi.dst v) w) : wpAnyH G md ops Q S (n + 1) l a w := by
 simp only [Bool.and_eq_true] at hb
 exact wpAnyH_take hi hb.1.1 hb.1.2 hb.2 hQ (.inl ⟨hw, hy⟩) hS h
theorem yH {i : Nat} {is : List Nat} {oi : Oper} {v : Value} {n : Nat} {l : Array Bool} {a : Act} {w : World} (hi : ops[i]? = some oi) (hb : (Region.noSelect ops && Region.free md ops l i && (Region.ready md ops l).contains i) = true) (hQ : ∀ c a w, Q (.panic c) (a.put oi.dst v) w -> Q (.panic c) a w) (hw : Region.wanted oi (yielded ops a.tmps) = true) (hy : ∀ w, S w -> (execOp a.eval oi).run G w = .ok (.value v) w) (hS : S w)
 (h : wpH_ is G md ops Q S n (l.setIfInBounds i true) (a.put oi.dst v) w) : wpH_ (i :: is) G md ops Q S (n + 1) l a w := xH i hi hb hQ hw hy hS h
end
theorem pts : (∀ (a : Act) (d : Tmp) (v : Value), a.put (some d) v = { a with tmps := a.tmps.setIfInBounds d v }) /\ (∀ (a : Act) (v : Value), a.put none v = a) /\
 (∀ (xs : List Value) (i : Nat) (h : i < xs.toArray.size), xs.toArray[i] = xs[i]'(by simpa using h)) /\
 (∀ (a : Value) (l : List Value) (h : 0 < (a :: l).length), (a :: l)[0] = a) /\
 (∀ (a : Value) (l : List Value) (i : Nat) (h : i + 1 < (a :: l).length), (a :: l)[i + 1] = l[i]'(by simpa using h)) /\
 (∀ (xs : List Oper) (i : Nat) (h : i < xs.toArray.size), xs.toArray[i] = xs[i]'(by simpa using h)) /\
 (∀ (a : Oper) (l : List Oper) (h : 0 < (a :: l).length), (a :: l)[0] = a) /\
 (∀ (a : Oper) (l : List Oper) (i : Nat) (h : i + 1 < (a :: l).length), (a :: l)[i + 1] = l[i]'(by simpa using h)) /\
 (∀ (l : List Value) (i : Nat) (a : Value), l.toArray.setIfInBounds i a = (l.set i a).toArray) /\
 (∀ (a b : Value) (l : List Value), (a :: l).set 0 b = b :: l) /\
 (∀ (a b : Value) (l : List Value) (n : Nat), (a :: l).set (n + 1) b = a :: l.set n b) :=
 ⟨fun _ _ _ => rfl, fun _ _ => rfl, fun _ _ _ => rfl, fun _ _ _ => rfl, fun _ _ _ _ => rfl, fun _ _ _ => rfl, fun _ _ _ => rfl, fun _ _ _ _ => rfl, fun l i a => by simp, fun _ _ _ => rfl, fun _ _ _ _ => rfl⟩
section
variable {G : Program} {ops : Array Oper} {Q : Exit -> Act -> World -> Prop} {md : Region.Mode} {S : World -> Prop} {D : List Nat}
theorem wpD_firstP {i : Nat} {oi : Oper} {v : Value} (hi : ops[i]? = some oi) (hsel : ∀ (j : Nat) (o : Oper) cs b, ops[j]? = some o -> o.op ≠ .select cs b)
  (hQ : ∀ c a w, Q (.panic c) (a.put oi.dst v) w -> Q (.panic c) a w) (hiD : i ∉ D) (n : Nat) :
  ∀ (l : Array Bool) (a : Act) (w : World), (∀ j oj, ops[j]? = some oj -> j ≠ i -> l.getD j true = false -> (∀ e ∈ oj.after, Region.binds md e = true -> e.on ≠ i) -> oi.apart ops oj = true) ->
   i ∈ Region.ready md ops l -> YieldsIf G ops (fun _ => True) oi v a -> (Un D l -> S w) -> wpD G md ops Q S D n (l.setIfInBounds i true) (a.put oi.dst v) w -> wpD G md ops Q S D (n + 1) l a w := by
 have none0 : ∀ {l : Array Bool}, i ∈ Region.ready md ops l -> Region.ready md ops l = [] -> False := fun h e => by rw [e] at h; cases h
 have hun0 : ∀ {l : Array Bool}, Un D (l.setIfInBounds i true) -> Un D l := fun {l} h d hd => by
  have hne : i ≠ d := fun e => hiD (e ▸ hd)
  have := h d hd
  rw [getD_set_ne true hne] at this
  exact this
 induction n with
 | zero =>
  intro l a w hf hr hy hS H
  refine ⟨fun e => (none0 hr e).elim, fun j hj => ?_⟩
  by_cases e : j = i
  ·rw [e]; exact hy.wpOp hi trivial ⟨fun h => hS (hun0 h), H⟩
  ·have h0 := ready_mono hj e
   rw [H.1] at h0
   cases h0
 | succ n ih =>
  intro l a w hf hr hy hS H
  refine ⟨fun e => (none0 hr e).elim, fun j hj => ?_⟩
  by_cases e : j = i
  ·rw [e]; exact hy.wpOp hi trivial ⟨fun h => hS (hun0 h), H⟩
  ·obtain ⟨hjun, oj, hoj, hall⟩ := mem_ready.1 hj
   have hiun := (mem_ready.1 hr).1
   have hfar : ∀ x ∈ oj.after, Region.binds md x = true -> x.on ≠ i := fun x hx hb he => by
    have h1 := hall x hx hb
    rw [he] at h1
    rcases Nat.lt_or_ge i l.size with g | g
    ·simp [g] at hiun h1; rw [hiun] at h1; cases h1
    ·simp [Array.getElem?_eq_none g] at h1
   have hstep := wpOp_putIf hoj (hf j oj hoj e hjun hfar) (fun cs b => hsel i oi cs b hi) (fun cs b => hsel j oj cs b hoj) hQ hy (H.2 j (ready_mono hj e))
   refine wpOp_mono (fun b u k => ?_) hstep
   have hSu : Un D (l.setIfInBounds j true) -> S u := fun h => k.2.1 (by rw [Array.setIfInBounds_comm _ _ (Ne.symm e)]; exact un_set h hiD)
   refine ⟨hSu, ih _ b u (fun m om hm hmi hun hno => hf m om hm hmi ?_ hno) (ready_mono hr (Ne.symm e)) k.1 hSu ?_⟩
   ·by_cases hjm : j = m
    ·rw [<- hjm]; exact hjun
    ·rw [getD_set_ne true hjm] at hun; exact hun
   ·rw [Array.setIfInBounds_comm _ _ e]
    exact k.2.2
theorem wpD_takeP {i : Nat} {oi : Oper} {v : Value} {n : Nat} {l : Array Bool} {a : Act} {w : World} (hi : ops[i]? = some oi) (hs : Region.noSelect ops = true) (hf : Region.free md ops l i = true)
  (hr : (Region.ready md ops l).contains i = true) (hD : D.contains i = false) (hQ : ∀ c a w, Q (.panic c) (a.put oi.dst v) w -> Q (.panic c) a w) (hy : YieldsIf G ops (fun _ => True) oi v a) (hS : Un D l -> S w)
  (h : wpD G md ops Q S D n (l.setIfInBounds i true) (a.put oi.dst v) w) : wpD G md ops Q S D (n + 1) l a w :=
 wpD_firstP hi (Region.noSelect_spec hs) hQ (fun h => by rw [List.contains_iff_mem.2 h] at hD; cases hD) n l a w (Region.free_spec hi hf) (by simpa using hr) hy hS h
def wpD_P (_ : List Nat) (G : Program) (md : Region.Mode) (ops : Array Oper) (Q : Exit -> Act -> World -> Prop) (S : World -> Prop) (D : List Nat) (n : Nat) (l : Array Bool) (a : Act) (w : World) : Prop := wpD G md ops Q S D n l a w
theorem zP {is : List Nat} {n : Nat} {l : Array Bool} {a : Act} {w : World} (h : wpD_P is G md ops Q S D n l a w) : wpD G md ops Q S D n l a w := h
theorem eP {n : Nat} {l : Array Bool} {a : Act} {w : World} (h : wpD G md ops Q S D n l a w) : wpD_P [] G md ops Q S D n l a w := h
theorem xP (i : Nat) {oi : Oper} {v : Value} {n : Nat} {l : Array Bool} {a : Act} {w : World} (hi : ops[i]? = some oi) (hb : (Region.noSelect ops && Region.free md ops l i && (Region.ready md ops l).contains i && !(D.contains i)) = true) (hQ : ∀ c a w, Q (.panic c) (a.put oi.dst v) w -> Q (.panic c) a w) (hw : Region.wanted oi (yielded ops a.tmps) = true) (hy : ∀ w, True -> (execOp a.eval oi).run G w = .ok (.value v) w) (hS : Un D l -> S w)
 (h : wpD G md ops Q S D n (l.setIfInBounds i true) (a.put oi.dst v) w) : wpD G md ops Q S D (n + 1) l a w := by
 simp only [Bool.and_eq_true] at hb
 exact wpD_takeP hi hb.1.1.1 hb.1.1.2 hb.1.2 (by simpa using hb.2) hQ (.inl ⟨hw, hy⟩) hS h
theorem yP {i : Nat} {is : List Nat} {oi : Oper} {v : Value} {n : Nat} {l : Array Bool} {a : Act} {w : World} (hi : ops[i]? = some oi) (hb : (Region.noSelect ops && Region.free md ops l i && (Region.ready md ops l).contains i && !(D.contains i)) = true) (hQ : ∀ c a w, Q (.panic c) (a.put oi.dst v) w -> Q (.panic c) a w) (hw : Region.wanted oi (yielded ops a.tmps) = true) (hy : ∀ w, True -> (execOp a.eval oi).run G w = .ok (.value v) w) (hS : Un D l -> S w)
 (h : wpD_P is G md ops Q S D n (l.setIfInBounds i true) (a.put oi.dst v) w) : wpD_P (i :: is) G md ops Q S D (n + 1) l a w := xP i hi hb hQ hw hy hS h
end
end Go.Proofs.YtoemoiehjdmheaaGreat.D
