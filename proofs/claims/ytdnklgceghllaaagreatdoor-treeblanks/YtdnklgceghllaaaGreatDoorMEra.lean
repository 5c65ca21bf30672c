import Derived.Test.YtdnklgceghllaaaGreatDoorMSame
import Derived.Test.YtdnklgceghllaaaGreatDoorDMath
namespace Go.Proofs.YtdnklgceghllaaaGreatDoor.M
open Go.Proofs
open Go.Proofs.YtdnklgceghllaaaGreatDoor.K (Tk)
open Go.Proofs.YtdnklgceghllaaaGreatDoor.Y (Nd Df Ps e0)
open Go.Proofs.YtdnklgceghllaaaGreatDoor.D
set_option linter.unusedVariables false
set_option linter.unusedSimpArgs false
def er : Nd -> Nd
  | ⟨k, op, v, nm, th, el, has, _⟩ => ⟨k, op, v, nm, th.map er, el.map er, has, (0, 0)⟩
theorem er_is (n : Nd) : er n = ⟨n.k, n.op, n.v, n.nm, n.th.map er, n.el.map er, n.has, (0, 0)⟩ := by cases n; rw [er]
def erT (t : Tk) : Tk := { t with p := (0, 0) }
def erD (d : Df) : Df := { d with body := d.body.map er, p := (0, 0) }
def erR (r : Rd) : Rd := ⟨r.rest.map erT, r.defs.map erD, r.banks, erT r.at_, r.body.map er, r.opn.map er, r.ended⟩
def erE {α β : Type} (f : α -> β) : Except Er α -> Except Er β
  | .error x => .error ((0, 0), x.2)
  | .ok r => .ok (f r)
theorem er_bind {α α' β β' : Type} {g : α -> α'} {h : β -> β'} {x : Except Er α} {x' : Except Er α'} {f : α -> Except Er β} {f' : α' -> Except Er β'} (hx : erE g x = x') (k : ∀ r, erE h (f r) = f' (g r)) : erE h (x >>= f) = (x' >>= f') := by
  subst hx
  cases x with
  | error e => rfl
  | ok r => exact k r
theorem er_must {β β' : Type} {h : β -> β'} {b b' : Bool} {t : Tk} {c : Int} {f : Unit -> Except Er β} {f' : Unit -> Except Er β'} (hb : b' = b) (k : erE h (f ()) = f' ()) : erE h (must b t c >>= f) = (must b' (erT t) c >>= f') := by
  subst hb
  unfold must
  cases b'
  · rfl
  · exact k
theorem next_er (e : Ps) (r : Rd) : erE erR (next e r) = next (0, 0) (erR r) := by
  unfold next
  cases h : r.rest with
  | nil =>
    have : (erR r).rest = [] := by simp [erR, h]
    rw [this]; rfl
  | cons t ts =>
    have : (erR r).rest = erT t :: ts.map erT := by simp [erR, h]
    rw [this]; rfl
theorem put_er (t n : Nd) : er (put t n) = put (er t) (er n) := by
  have h1 : (er t).has = t.has := by rw [er_is]
  have h2 : (er t).k = t.k := by rw [er_is]
  unfold put
  rw [h1, h2]
  split
  · rw [er_is, er_is t]; simp
  · rw [er_is, er_is t]; simp
theorem last_er (r : Rd) : (erR r).opn.getLast? = r.opn.getLast?.map er := by simp [erR, List.getLast?_map]
theorem add_er (n : Nd) (r : Rd) : erR (add n r) = add (er n) (erR r) := by
  unfold add
  rw [last_er]
  cases h : r.opn.getLast? with
  | none => simp [erR]
  | some t => simp [erR, put_er, List.map_dropLast]
theorem stand_er (k : Int) (r : Rd) : standIn k (erR r) = standIn k r := by
  unfold standIn
  rw [last_er]
  cases h : r.opn.getLast? with
  | none => rfl
  | some t => simp [er_is t]
theorem begin_er (k : Int) (r : Rd) : erE erR (begin_ k r) = begin_ k (erR r) := by
  unfold begin_
  refine er_must (by simp [erR]) ?_
  simp [erE, erR, er_is, erT]
theorem close_er (k b : Int) (r : Rd) : erE erR (close k b r) = close k b (erR r) := by
  unfold close
  refine er_must (stand_er k r) ?_
  rw [last_er]
  cases h : r.opn.getLast? with
  | none => rfl
  | some t =>
    simp only [erE, Option.map_some, add_er]
    have e : er (setK t b) = setK (er t) b := by rw [er_is, er_is t]; rfl
    rw [e]
    congr 2
    simp [erR, List.map_dropLast]
theorem turnElse_er (r : Rd) : erE erR (turnElse r) = turnElse (erR r) := by
  unfold turnElse
  refine er_must (stand_er 4 r) ?_
  rw [last_er]
  cases h : r.opn.getLast? with
  | none => rfl
  | some t =>
    refine er_must (by rw [er_is]) ?_
    have e : er (setHas t) = setHas (er t) := by rw [er_is, er_is t]; rfl
    simp [erE, erR, List.map_dropLast, e]
theorem turnWhile_er (r : Rd) : erE erR (turnWhile r) = turnWhile (erR r) := by
  unfold turnWhile
  refine er_must (stand_er 0 r) ?_
  rw [last_er]
  cases h : r.opn.getLast? with
  | none => rfl
  | some t =>
    have e : er (setK t 6) = setK (er t) 6 := by rw [er_is, er_is t]; rfl
    simp [erE, erR, List.map_dropLast, e]
theorem leave_er (r : Rd) : erE erR (leave r) = leave (erR r) := by
  unfold leave
  refine er_must ?_ ?_
  · have : ((erR r).opn.any fun n => n.k == 8) = r.opn.any fun n => n.k == 8 := by
      simp only [erR, List.any_map]
      congr 1
      funext n
      simp [er_is n]
    rw [this]
  · simp only [erE, add_er]
    have e : er (ext r.at_.p) = ext (erR r).at_.p := by rw [er_is]; rfl
    rw [e]
theorem finish_er (r : Rd) : erE erR (finish r) = finish (erR r) := by
  unfold finish
  refine er_must (by simp [erR]) ?_
  rfl
def Nat_ (f : Rd -> Re) : Prop := ∀ r, erE erR (f r) = f (erR r)
theorem ite_ctl {b : Bool} {g : Rd -> Re} {y : Option (Rd -> Re)} (hg : Nat_ g) (hy : ∀ f, y = some f -> Nat_ f) : ∀ f, (if b = true then some g else y) = some f -> Nat_ f := by
  intro f h
  cases b
  · exact hy f h
  · obtain rfl := Option.some.inj h
    exact hg
theorem ctl_er (s : ByteArray) : ∀ (f : Rd -> Re), ctl s = some f -> Nat_ f := by
  unfold ctl
  refine ite_ctl (begin_er _) (ite_ctl turnElse_er (ite_ctl (close_er _ _) (ite_ctl (begin_er _) (ite_ctl (close_er _ _) (ite_ctl (close_er _ _) (ite_ctl turnWhile_er (ite_ctl (close_er _ _) (ite_ctl (begin_er _) (ite_ctl (close_er _ _) (ite_ctl leave_er (ite_ctl finish_er ?_)))))))))))
  intro f h
  cases h
theorem known_er (r : Rd) (s : ByteArray) : known (erR r) s = known r s := by
  unfold known erR
  simp only [List.map_map]
  rfl
section
variable (pr : ByteArray -> Option Int) (e : Ps)
theorem node_er (r : Rd) : erE erR (node pr r) = node pr (erR r) := by
  have ht : (erR r).at_.t = r.at_.t := rfl
  have hk : (erR r).at_.k = r.at_.k := rfl
  have hv : (erR r).at_.v = r.at_.v := rfl
  have hp : (erR r).at_.p = (0, 0) := rfl
  unfold node
  rw [ht, hk, hv, hp, known_er]
  by_cases h2 : (r.at_.k == 2) = true
  · rw [if_pos h2, if_pos h2]
    simp only [erE, add_er]
    rw [show er (lit r.at_.v r.at_.p) = lit r.at_.v (0, 0) by rw [er_is]; rfl]
  · rw [if_neg h2, if_neg h2]
    cases hc : ctl r.at_.t with
    | some f => exact ctl_er _ f hc r
    | none =>
      simp only
      by_cases h3 : known r r.at_.t = true
      · rw [if_pos h3, if_pos h3]
        simp only [erE, add_er]
        rw [show er (cll r.at_.t r.at_.p) = cll r.at_.t (0, 0) by rw [er_is]; rfl]
      · rw [if_neg h3, if_neg h3]
        cases pr r.at_.t with
        | none => rfl
        | some op =>
          simp only [erE, add_er]
          rw [show er (prm op r.at_.p) = prm op (0, 0) by rw [er_is]; rfl]
theorem bodyN_er : ∀ (n : Nat) (r : Rd), erE erR (bodyN pr e n r) = bodyN pr (0, 0) n (erR r)
  | 0, r => rfl
  | n + 1, r => by
    rw [bodyN, bodyN]
    have he : (erR r).ended = r.ended := rfl
    rw [he]
    by_cases h : r.ended = true
    · rw [if_pos h, if_pos h]; rfl
    · rw [if_neg h, if_neg h]
      exact er_bind (next_er e r) fun r => er_bind (node_er pr r) fun r => bodyN_er n r
theorem name_er (r : Rd) : erE erR (name e r) = name (0, 0) (erR r) := by
  unfold name
  refine er_bind (next_er e r) fun r => er_must rfl (er_must ?_ rfl)
  rw [known_er]; rfl
theorem define_er (k : Int) (t : Tk) (v : Int) (body : List Nd) (r : Rd) : erR (define k t v body r) = define k (erT t) v (body.map er) (erR r) := by
  simp [define, erR, erD, erT]
theorem word_er (r : Rd) : erE erR (word pr e r) = word pr (0, 0) (erR r) := by
  unfold word
  refine er_bind (name_er e r) fun r => ?_
  have hl : (erR r).rest.length = r.rest.length := by simp [erR]
  rw [hl]
  refine er_bind (g := erR) (bodyN_er pr e _ _) fun r2 => ?_
  simp only [erE, define_er]
  rfl
theorem dataN_er : ∀ (n : Nat) (d : List UInt8) (r : Rd), erE (fun x : List UInt8 × Rd => (x.1, erR x.2)) (dataN e n d r) = dataN (0, 0) n d (erR r)
  | 0, d, r => rfl
  | n + 1, d, r => by
    rw [dataN, dataN]
    refine er_bind (next_er e r) fun r => ?_
    have ht : (erR r).at_.t = r.at_.t := rfl
    rw [ht]
    by_cases h : isW r.at_.t [125] = true
    · rw [if_pos h, if_pos h]; rfl
    · rw [if_neg h, if_neg h]
      exact er_must rfl (dataN_er n _ r)
theorem bank_er (num : Tk) (r : Rd) : erE erR (bank e num r) = bank (0, 0) (erT num) (erR r) := by
  unfold bank
  refine er_must rfl (er_must rfl (er_bind (next_er e r) fun r => er_must rfl ?_))
  have hl : (erR r).rest.length = r.rest.length := by simp [erR]
  rw [hl]
  exact er_bind (dataN_er e _ _ r) fun x => rfl
theorem numbered_er (num : Tk) (r : Rd) : erE erR (numbered e num r) = numbered (0, 0) (erT num) (erR r) := by
  unfold numbered
  refine er_bind (next_er e r) fun r => ?_
  have ht : (erR r).at_.t = r.at_.t := rfl
  rw [ht]
  by_cases h1 : isW r.at_.t [99, 111, 110, 115, 116, 97, 110, 116] = true
  · rw [if_pos h1, if_pos h1]
    exact er_bind (name_er e r) fun r => by simp only [erE, define_er]; rfl
  · rw [if_neg h1, if_neg h1]
    by_cases h2 : isW r.at_.t [98, 117, 102, 102, 101, 114] = true
    · rw [if_pos h2, if_pos h2]
      exact er_must rfl (er_bind (name_er e r) fun r => by simp only [erE, define_er]; rfl)
    · rw [if_neg h2, if_neg h2]
      by_cases h3 : isW r.at_.t [98, 97, 110, 107] = true
      · rw [if_pos h3, if_pos h3]
        exact bank_er e num r
      · rw [if_neg h3, if_neg h3]
        rfl
theorem item_er (r : Rd) : erE erR (item pr e r) = item pr (0, 0) (erR r) := by
  unfold item
  refine er_bind (next_er e r) fun r => ?_
  have ht : (erR r).at_.t = r.at_.t := rfl
  have hk : (erR r).at_.k = r.at_.k := rfl
  rw [ht, hk]
  by_cases h0 : (r.at_.k == 2) = true
  · rw [if_pos h0, if_pos h0]
    exact numbered_er e _ r
  · rw [if_neg h0, if_neg h0]
    by_cases h1 : isW r.at_.t [58] = true
    · rw [if_pos h1, if_pos h1]
      exact word_er pr e r
    · rw [if_neg h1, if_neg h1]
      by_cases h2 : isW r.at_.t [118, 97, 114, 105, 97, 98, 108, 101] = true
      · rw [if_pos h2, if_pos h2]
        exact er_bind (name_er e r) fun r => by simp only [erE, define_er]; rfl
      · rw [if_neg h2, if_neg h2]
        rfl
theorem itemsN_er : ∀ (n : Nat) (r : Rd), erE erR (itemsN pr e n r) = itemsN pr (0, 0) n (erR r)
  | 0, r => rfl
  | n + 1, r => by
    rw [itemsN, itemsN]
    have he : (erR r).rest.isEmpty = r.rest.isEmpty := by simp [erR]
    rw [he]
    by_cases h : r.rest.isEmpty = true
    · rw [if_pos h, if_pos h]; rfl
    · rw [if_neg h, if_neg h]
      exact er_bind (item_er pr e r) fun r => itemsN_er n r
theorem read_er (ts : List Tk) : erE (fun x : List Df × List (Int × List UInt8) => (x.1.map erD, x.2)) (D.read pr e ts) = D.read pr (0, 0) (ts.map erT) := by
  unfold D.read
  rw [List.length_map]
  refine er_bind (g := erR) (itemsN_er pr e _ _) fun r => ?_
  have hm : (erR r).defs.any R.isMain = r.defs.any R.isMain := by
    simp only [erR, List.any_map]
    rfl
  rw [hm]
  by_cases h : r.defs.any R.isMain = true
  · rw [if_pos h, if_pos h]; rfl
  · rw [if_neg h, if_neg h]; rfl
end
end Go.Proofs.YtdnklgceghllaaaGreatDoor.M
