import Derived.Test.YtdnklgceghllaaaGreatDoorKScanW
import Derived.Test.YtdnklgceghllaaaGreatDoorDPrims
import Derived.Test.YtdnklgceghllaaaGreatDoorDMath
import Derived.Test.YtdnklgceghllaaaGreatDoorKScan
import Derived.Test.YtdnklgceghllaaaGreatDoorMPrt
import Derived.Test.YtdnklgceghllaaaGreatDoorKTok
import Derived.Test.YtdnklgceghllaaaGreatDoorMSame
import Derived.Test.YtdnklgceghllaaaGreatDoorDSort
import Derived.Test.YtdnklgceghllaaaGreatDoorMPar
import Derived.KernelRfl
namespace Go.Proofs.YtdnklgceghllaaaGreatDoor.K
open Go.Proofs.YtdnklgceghllaaaGreatDoor
open Go.Proofs.YtdnklgceghllaaaGreatDoor.T (numE numC stepP place place_succ)
set_option linter.unusedVariables false
def plt (p q : Int × Int) : Prop := p.1 < q.1 \/ (p.1 = q.1 /\ p.2 < q.2)
theorem plt_step (p : Int × Int) (c : UInt8) : plt p (stepP p c) := by
  unfold plt stepP; split
  · left; show p.1 < p.1 + 1; omega
  · right; exact ⟨rfl, by show p.2 < p.2 + 1; omega⟩
theorem plt_trans {p q r : Int × Int} (h : plt p q) (k : plt q r) : plt p r := by unfold plt at *; omega
theorem place_lt (l : List UInt8) (i j : Nat) (h : i < j) (hj : j <= l.length) : plt (place l i) (place l j) := by
  induction j with
  | zero => omega
  | succ j ih =>
    rw [place_succ l j (by omega)]
    by_cases e : i = j
    · subst e; exact plt_step _ _
    · exact plt_trans (ih (by omega) (by omega)) (plt_step _ _)
theorem place_inj (l : List UInt8) (i j : Nat) (hi : i <= l.length) (hj : j <= l.length) (e : place l i = place l j) : i = j := by
  rcases Nat.lt_trichotomy i j with h | h | h
  · have := place_lt l i j h hj; rw [e] at this; unfold plt at this; omega
  · exact h
  · have := place_lt l j i h hi; rw [e] at this; unfold plt at this; omega
theorem place_take (l : List UInt8) (m i : Nat) (h : i <= m) : place (l.take m) i = place l i := by
  unfold T.place; rw [List.take_take, Nat.min_eq_left h]
theorem take_get (l : List UInt8) (m i : Nat) (h : i < m) (hl : i < l.length) : (l.take m)[i]'(by rw [List.length_take]; omega) = l[i] := by simp
theorem wend_take (l : List UInt8) (m : Nat) (hm : m <= l.length) : ∀ i, i <= m -> wend l i <= m -> wend (l.take m) i = wend l i := by
  intro i
  generalize hn : m - i = n
  induction n generalizing i with
  | zero =>
    intro hi hw
    have h1 := wend_ge l i
    rw [wend_out (l.take m) i (by rw [List.length_take]; omega)]; omega
  | succ n ih =>
    intro hi hw
    have hlt : i < l.length := by omega
    have hlt2 : i < (l.take m).length := by rw [List.length_take]; omega
    have hg := take_get l m i (by omega) hlt
    cases hv : T.seen l[i].toNat with
    | true =>
      rw [wend_yes l i hlt hv] at hw ⊢
      rw [wend_yes (l.take m) i hlt2 (by rw [hg]; exact hv)]
      exact ih (i + 1) (by omega) (by omega) hw
    | false => rw [wend_no l i hlt hv, wend_no (l.take m) i hlt2 (by rw [hg]; exact hv)]
theorem wd_take (l : List UInt8) (m i j : Nat) (h : j <= m) : wd (l.take m) i j = wd l i j := by
  unfold wd; rw [List.drop_take, List.take_take]; congr 1; omega
theorem nxt_take (c : Nat) (l : List UInt8) (m : Nat) (hm : m <= l.length) : ∀ i k, i <= m -> nxt c l i = some k -> k <= m -> nxt c (l.take m) i = some k := by
  intro i
  generalize hn : m - i = n
  induction n generalizing i with
  | zero => intro k hi h hk; have := nxt_in c l i k h; omega
  | succ n ih =>
    intro k hi h hk
    have hlt : i < l.length := by omega
    have hlt2 : i < (l.take m).length := by rw [List.length_take]; omega
    have hg := take_get l m i (by omega) hlt
    by_cases hc : l[i].toNat = c
    · rw [nxt_yes c l i hlt hc] at h
      rw [nxt_yes c (l.take m) i hlt2 (by rw [hg]; exact hc)]; exact h
    · rw [nxt_no c l i hlt hc] at h
      rw [nxt_no c (l.take m) i hlt2 (by rw [hg]; exact hc)]
      exact ih (i + 1) (by omega) k (by omega) h hk
theorem getD_take (l : List UInt8) (m i : Nat) (h : i < m) (hl : i < l.length) : (l.take m).getD i 0 = l.getD i 0 := by
  rw [List.getD_eq_getElem?_getD, List.getD_eq_getElem?_getD, List.getElem?_take, if_pos h]
theorem sp_take (l : List UInt8) (m i : Nat) (hm : m <= l.length) (hi : i < m) (j : Nat) (hj : j <= m) (e : sp l i = .ok (.inl j) \/ sp l i = .ok (.inr j)) : sp (l.take m) i = sp l i := by
  have hl : i < l.length := by omega
  have hlt : (l.take m).length = m := by rw [List.length_take]; omega
  by_cases hfull : m = l.length
  · rw [hfull, List.take_length]
  rcases sp_cases l i hl with ⟨h1, h2, h3, h⟩ | ⟨h1, h2, h3, h⟩ | ⟨h1, h2, h, h3⟩ | ⟨h1, h2, h3, h4, h⟩ | ⟨k, h1, h2, h3, h4, h⟩ | ⟨q, h1, h0, h2, h3, h4, h⟩ | ⟨q, h1, h0, h2, h3, h4, h5, h⟩ | ⟨q, h1, h0, h2, h3, h4, h5, h⟩
  · have hw := wend_take l m hm i (by omega) (by omega)
    rw [h]; unfold sp; rw [hw, if_pos h1, getD_take l m i hi hl, if_pos h3]
  · rw [h] at e; rcases e with e | e <;> cases e
  · have hw := wend_take l m hm i (by omega) (by omega)
    cases hx : nxt 10 l i with
    | none =>
      rw [h, hx] at e
      rcases e with e | e
      · simp at e; omega
      · cases e
    | some k =>
      rw [h, hx] at e
      have hk : k <= m := by
        rcases e with e | e
        · simp at e; omega
        · cases e
      rw [hx] at h3
      have hn := nxt_take 10 l m hm (i + 1) k (by omega) h3 hk
      rw [h, hx]; unfold sp; rw [hw, if_neg (by omega), h1]; unfold spW; rw [wd_take l m i (i + 1) (by omega), if_pos h2, hn]; rfl
  · rw [h] at e; rcases e with e | e <;> cases e
  · have hw := wend_take l m hm i (by omega) (by omega)
    have hk : k <= m := by
      rw [h] at e
      rcases e with e | e
      · simp at e; omega
      · cases e
    have hn := nxt_take 41 l m hm (i + 1) k (by omega) h4 hk
    rw [h]; unfold sp; rw [hw, if_neg (by omega), h1]; unfold spW; rw [wd_take l m i (i + 1) (by omega), if_neg (by rw [h2]; decide), if_pos h2, hn]
  · rw [h] at e; rcases e with e | e <;> cases e
  · rw [h] at e; rcases e with e | e <;> cases e
  · have hq : q <= m := by
      rw [h] at e
      rcases e with e | e
      · cases e
      · simp at e; omega
    have hw := wend_take l m hm i (by omega) (by omega)
    rw [h]; unfold sp; rw [hw, if_neg (by omega), h1]; unfold spW; rw [wd_take l m i q hq, if_neg h2, if_neg h3, if_neg (by omega), if_neg h5]
structure Pre (l : List UInt8) (i : Nat) (a : List (Nat × Nat)) : Prop where
  run : ∀ m, i <= m -> m <= l.length -> At (l.take m) i a
  toks : ∀ k (h : k < a.length), sc (l.take a[k].2) = (a.take (k + 1), a[k].2, 0)
  ends : ∀ k (h : k < a.length), a[k].1 < a[k].2 /\ a[k].2 <= i /\ a[k].2 - a[k].1 <= 31
  rise : ∀ k (h : k + 1 < a.length), a[k].2 <= a[k + 1].1
theorem Pre.to {l : List UInt8} {i j : Nat} {a : List (Nat × Nat)} (h : Pre l i a) (hi : i < l.length) (e : sp l i = .ok (.inl j)) : Pre l j a := by
  have hj := sp_to l i j hi e
  refine ⟨fun m hm hl => ?_, h.toks, fun k hk => ⟨(h.ends k hk).1, by have := (h.ends k hk).2.1; omega, (h.ends k hk).2.2⟩, h.rise⟩
  have hsp := sp_take l m i hl (by omega) j hm (.inl e)
  exact (h.run m (by omega) hl).to (by rw [List.length_take]; omega) (by rw [hsp]; exact e)
theorem Pre.wo {l : List UInt8} {i j : Nat} {a : List (Nat × Nat)} (h : Pre l i a) (hi : i < l.length) (e : sp l i = .ok (.inr j)) : Pre l j (a ++ [(i, j)]) := by
  have hj := sp_wo l i j hi e
  have hrun : ∀ m, j <= m -> m <= l.length -> At (l.take m) j (a ++ [(i, j)]) := fun m hm hl => by
    have hsp := sp_take l m i hl (by omega) j hm (.inr e)
    exact (h.run m (by omega) hl).wo (by rw [List.length_take]; omega) (by rw [hsp]; exact e)
  refine ⟨hrun, fun k hk => ?_, fun k hk => ?_, fun k hk => ?_⟩
  · by_cases hka : k < a.length
    · have h1 := h.toks k hka
      rw [List.getElem_append_left hka, List.take_append_of_le_length (by omega)]; exact h1
    · obtain rfl : k = a.length := by simp at hk; omega
      have h1 := (hrun j (Nat.le_refl _) hj.2.1).fin (by rw [List.length_take]; omega)
      have h2 : (a ++ [(i, j)])[a.length] = (i, j) := by simp
      have h3 : (a ++ [(i, j)]).take (a.length + 1) = a ++ [(i, j)] := List.take_of_length_le (by simp)
      rw [h2, h3]
      exact h1
  · by_cases hka : k < a.length
    · have h1 := h.ends k hka
      rw [List.getElem_append_left hka]; exact ⟨h1.1, by omega, h1.2.2⟩
    · obtain rfl : k = a.length := by simp at hk; omega
      have h2 : (a ++ [(i, j)])[a.length] = (i, j) := by simp
      rw [h2]; exact ⟨hj.1, Nat.le_refl _, hj.2.2.2.2.2.1⟩
  · by_cases hka : k + 1 < a.length
    · have h1 := h.rise k hka
      rw [List.getElem_append_left hka, List.getElem_append_left (by omega)]; exact h1
    · have hk1 : k + 1 = a.length := by simp at hk; omega
      have h2 : (a ++ [(i, j)])[k + 1]'hk = (i, j) := by simp [hk1]
      have h3 : k < a.length := by omega
      have h4 := (h.ends k h3).2.1
      rw [h2, List.getElem_append_left h3]; exact h4
theorem sc_pre (l : List UInt8) : Pre l (sc l).2.1 (sc l).1 := by
  obtain ⟨i, a, hA, hP, h⟩ := At.ends l (P := fun i a => Pre l i a)
    ⟨fun m _ _ => At.start _, fun k h => by simp at h, fun k h => by simp at h, fun k h => by simp at h⟩
    (fun i j a _ h hi e => h.to hi e) (fun i j a _ h hi e => h.wo hi e)
  rcases h with ⟨_, e⟩ | ⟨x, _, _, e⟩ <;> rw [e] <;> exact hP
theorem sc_err (l : List UInt8) : (sc l).2.2 = 0 \/ (sc l).2.2 = 91 \/ (sc l).2.2 = 92 \/ (sc l).2.2 = 93 \/ (sc l).2.2 = 21 := by
  obtain ⟨i, a, hA, hP, h⟩ := At.ends l (P := fun _ _ => True) trivial (fun _ _ _ _ _ _ _ => trivial) (fun _ _ _ _ _ _ _ => trivial)
  rcases h with ⟨_, e⟩ | ⟨x, _, hx, e⟩
  · left; rw [e]
  · right; rw [e]; exact sp_no l i x hx
end Go.Proofs.YtdnklgceghllaaaGreatDoor.K
namespace Go.Proofs.YtdnklgceghllaaaGreatDoor.K
open Go.Proofs.YtdnklgceghllaaaGreatDoor
open Go.Proofs.YtdnklgceghllaaaGreatDoor.T (numE numC)
set_option linter.unusedVariables false
structure Gd (w : List UInt8) : Prop where
 ne : w ≠ []
 seen : ∀ c ∈ w, T.seen c.toNat = true
 n1 : w ≠ [92]
 n2 : w ≠ [40]
 le : w.length <= 31
 num : numE w ≠ 21
theorem wl_word (w r : List UInt8) (hw : ∀ c ∈ w, T.seen c.toNat = true) (hr : r = [] \/ ∃ c t, r = c :: t /\ T.seen c.toNat = false) : wl (w ++ r) = w.length := by
 induction w with
 | nil =>
  rcases hr with rfl | ⟨c, t, rfl, hc⟩
  ·rfl
  ·simp [wl, hc]
 | cons x t ih =>
  have hx := hw x (List.mem_cons_self ..)
  rw [List.cons_append, wl, if_pos hx, ih (fun c h => hw c (List.mem_cons_of_mem _ h))]; rfl
theorem drop_at (p x : List UInt8) : (p ++ x).drop p.length = x := by simp
theorem wd_mid (p w r : List UInt8) : wd (p ++ (w ++ r)) p.length (p.length + w.length) = w := by
 unfold wd; rw [drop_at, Nat.add_sub_cancel_left]; simp
theorem sp_word (p w r : List UInt8) (hw : Gd w) (hr : r = [] \/ ∃ c t, r = c :: t /\ T.seen c.toNat = false) : sp (p ++ (w ++ r)) p.length = .ok (.inr (p.length + w.length)) := by
 have h1 : wend (p ++ (w ++ r)) p.length = p.length + w.length := by unfold wend; rw [drop_at, wl_word w r hw.seen hr]
 have h2 : 0 < w.length := List.length_pos_iff.2 hw.ne
 unfold sp
 rw [h1, if_neg (by omega)]
 unfold spW
 rw [wd_mid, if_neg hw.n1, if_neg hw.n2, if_neg (by have := hw.le; omega), if_neg hw.num]
theorem getD_at (p : List UInt8) (c : UInt8) (r : List UInt8) : (p ++ (c :: r)).getD p.length 0 = c := by
 rw [List.getD_eq_getElem?_getD, List.getElem?_append_right (Nat.le_refl _), Nat.sub_self]; rfl
theorem sp_blank (p : List UInt8) (c : UInt8) (r : List UInt8) (hc : bk c.toNat = true) (hs : T.seen c.toNat = false) : sp (p ++ (c :: r)) p.length = .ok (.inl (p.length + 1)) := by
 have h1 : wend (p ++ (c :: r)) p.length = p.length := by unfold wend; rw [drop_at]; simp [wl, hs]
 unfold sp
 rw [if_pos h1, getD_at, if_pos hc]
structure Sep (s : List UInt8) : Prop where
 hd : ∃ c t, s = c :: t /\ T.seen c.toNat = false
 skip : ∀ p r a, At (p ++ (s ++ r)) p.length a -> At (p ++ (s ++ r)) (p.length + s.length) a
theorem step_blank (p r : List UInt8) (c : UInt8) (a : List (Nat × Nat)) (hc : bk c.toNat = true) (hs : T.seen c.toNat = false) (h : At (p ++ (c :: r)) p.length a) : At (p ++ (c :: r)) (p.length + 1) a :=
 h.to (by simp) (sp_blank p c r hc hs)
theorem sep_one : Sep [32] := ⟨⟨32, [], rfl, by decide⟩, fun p r a h => step_blank p r 32 a (by decide) (by decide) h⟩
end Go.Proofs.YtdnklgceghllaaaGreatDoor.K
namespace Go.Proofs.YtdnklgceghllaaaGreatDoor.M
open Go.Proofs.YtdnklgceghllaaaGreatDoor.K (Tk)
open Go.Proofs.YtdnklgceghllaaaGreatDoor.Y (Nd Df Ps e0)
open Go.Proofs.YtdnklgceghllaaaGreatDoor.D (Rd Er Re next must add ctl isW lit prm cll define known PM)
open Go.Proofs.YtdnklgceghllaaaGreatDoor.R (lk)
set_option linter.unusedVariables false
set_option maxRecDepth 100000
section
variable (rs im : ByteArray -> Bool) (kn : Rd -> ByteArray -> Bool) (pr : ByteArray -> Option Int) (e : Ps)
def nodeG (r : Rd) : Re :=
 if r.at_.k == 2 then .ok (add (lit r.at_.v r.at_.p) r)
 else match ctl r.at_.t with
 | some f => f r
 | none =>
  if kn r r.at_.t then .ok (add (cll r.at_.t r.at_.p) r)
  else match pr r.at_.t with
  | some op => .ok (add (prm op r.at_.p) r)
  | none => .error (r.at_.p, if rs r.at_.t then 104 else 103)
def bodyG : Nat -> Rd -> Re
 | 0, r => .ok r
 | n + 1, r => if r.ended then .ok r else do
  let r ← next e r
  let r ← nodeG rs kn pr r
  bodyG n r
def nameG (r : Rd) : Re := do
 let r ← next e r
 must (im r.at_.t) r.at_ 101
 must (!kn r r.at_.t) r.at_ 102
 .ok r
def wordG (r : Rd) : Re := do
 let r ← nameG im kn e r
 let t := r.at_
 let r ← bodyG rs kn pr e (r.rest.length + 1) { r with body := [], opn := [], ended := false }
 .ok (define 1 t 0 r.body r)
def numberedG (num : Tk) (r : Rd) : Re := do
 let r ← next e r
 if isW r.at_.t [99, 111, 110, 115, 116, 97, 110, 116] then do
  let r ← nameG im kn e r
  .ok (define 2 r.at_ num.v [] r)
 else if isW r.at_.t [98, 117, 102, 102, 101, 114] then do
  must (decide (num.v <= 16384)) num 106
  let r ← nameG im kn e r
  .ok (define 3 r.at_ num.v [] r)
 else if isW r.at_.t [98, 97, 110, 107] then D.bank e num r
 else .error (r.at_.p, 100)
def itemG (r : Rd) : Re := do
 let r ← next e r
 if r.at_.k == 2 then numberedG im kn e r.at_ r
 else if isW r.at_.t [58] then wordG rs im kn pr e r
 else if isW r.at_.t [118, 97, 114, 105, 97, 98, 108, 101] then do
  let r ← nameG im kn e r
  .ok (define 3 r.at_ 2 [] r)
 else .error (r.at_.p, 100)
def itemsG : Nat -> Rd -> Re
 | 0, r => .ok r
 | n + 1, r => if r.rest.isEmpty then .ok r else do
  let r ← itemG rs im kn pr e r
  itemsG n r
end
theorem bodyG_is (pr : ByteArray -> Option Int) (e : Ps) : ∀ (n : Nat), D.bodyN pr e n = bodyG R.isRes known pr e n
 | 0 => rfl
 | n + 1 => by
  funext r
  rw [D.bodyN, bodyG, bodyG_is pr e n]
  rfl
theorem wordG_is (pr : ByteArray -> Option Int) (e : Ps) : D.word pr e = wordG R.isRes R.isNm known pr e := by
 funext r
 unfold D.word wordG
 simp only [bodyG_is]
 rfl
theorem itemG_is (pr : ByteArray -> Option Int) (e : Ps) : D.item pr e = itemG R.isRes R.isNm known pr e := by
 funext r
 unfold D.item itemG
 rw [wordG_is]
 rfl
theorem itemsG_is (pr : ByteArray -> Option Int) (e : Ps) : ∀ (n : Nat) (r : Rd), D.itemsN pr e n r = itemsG R.isRes R.isNm known pr e n r
 | 0, r => rfl
 | n + 1, r => by
  rw [D.itemsN, itemsG, itemG_is, show D.itemsN pr e n = itemsG R.isRes R.isNm known pr e n from funext (itemsG_is pr e n)]
theorem list_inj {a b : ByteArray} (h : a.data.toList = b.data.toList) : a = b := ByteArray.ext (Array.toList_inj.1 h)
def isB (a b : ByteArray) : Bool := a.data.toList == b.data.toList
theorem isB_is (a b : ByteArray) : decide (a = b) = isB a b := by
 unfold isB
 by_cases h : a = b
 ·subst h; simp
 ·rw [decide_eq_false h]
  symm
  rw [beq_eq_false_iff_ne]
  exact fun c => h (list_inj c)
def prF (s : ByteArray) : Bool := !s.data.toList.isEmpty && P.allN.any fun x => (P.nm x).data.toList == s.data.toList
def rsF (s : ByteArray) : Bool := (R.resL.any fun l => s.data.toList == l) || prF s
def imF (s : ByteArray) : Bool := T.nameB s.data.toList && !rsF s
def knF (r : Rd) (s : ByteArray) : Bool := (r.defs.map (·.nm)).any fun x => isB x s
theorem rs_is : R.isRes = rsF := by
 funext s
 simp only [R.isRes, rsF, R.resW, R.prN, prF, ByteArray.toList_eq]
theorem im_is : R.isNm = imF := by
 funext s
 rw [R.isNm, rs_is, imF]
theorem kn_is : known = knF := by
 funext r s
 simp only [known, knF, isB_is]
def PL : R.En := (⟨#[]⟩, 8) :: (List.range' 9 55).map fun x => (P.nm x, (x : Int))
theorem PM_is : PM = PL := by kernel_rfl
def lkF : R.En -> ByteArray -> Option Int
 | [], _ => none
 | (s, v) :: r, x => if isB s x then some v else lkF r x
theorem lkF_is (L : R.En) (x : ByteArray) : lk L x = lkF L x := by
 induction L with
 | nil => rfl
 | cons a r ih =>
  obtain ⟨s, v⟩ := a
  rw [lk, lkF, ih, <- isB_is]
  by_cases h : s = x <;> simp [h]
theorem lk_is : lk PM = lkF PL := by
 funext x
 rw [PM_is, lkF_is]
theorem itemsF_is (e : Ps) (n : Nat) (r : Rd) : D.itemsN (lk PM) e n r = itemsG rsF imF knF (lkF PL) e n r := by
 rw [itemsG_is, rs_is, im_is, kn_is, lk_is]
end Go.Proofs.YtdnklgceghllaaaGreatDoor.M
namespace Go.Proofs.YtdnklgceghllaaaGreatDoor.M
open Go.RowKit
open Go.Proofs
open Go.Proofs.YtdnklgceghllaaaGreatDoor.K (Tk kd)
open Go.Proofs.YtdnklgceghllaaaGreatDoor.Y (Nd Df Ps Bk e0)
open Go.Proofs.YtdnklgceghllaaaGreatDoor.D (Rd Er Re next must add put begin_ close turnElse turnWhile leave finish ctl isW lit prm cll ext setK setHas standIn node bodyN known PM)
open Go.Proofs.YtdnklgceghllaaaGreatDoor.R (ck cks own1 fits inn isNm lk)
set_option linter.unusedVariables false
set_option linter.unusedSimpArgs false
set_option maxRecDepth 100000
def WfT (t : Tk) : Prop := t.k = kd t.t.data.toList /\ t.v = T.numC t.t.data.toList
def vn : Nd -> Bool
 | ⟨k, _, v, _, th, el, _, _⟩ => (k != 2 || (decide (0 <= v) && decide (v <= 65535))) && ((th.map vn).all id && (el.map vn).all id)
def vns (l : List Nd) : Bool := (l.map vn).all id
structure St (r : Rd) (i : Nat × Bool) (names : List ByteArray) : Prop where
 nend : r.ended = false
 dep : r.opn.length = i.1
 ind : (r.opn.any fun n => n.k == 8) = i.2
 nms : r.defs.map (·.nm) = names
theorem node_lit (r : Rd) (h : r.at_.k = 2) : node (lk PM) r = .ok (add (lit r.at_.v r.at_.p) r) := by
 unfold node
 rw [if_pos (by rw [h]; rfl)]
theorem node_ctl (r : Rd) (f : Rd -> Re) (h : ¬ r.at_.k = 2) (hc : ctl r.at_.t = some f) : node (lk PM) r = f r := by
 unfold node
 rw [if_neg (by simpa using h), hc]
theorem node_call (r : Rd) (h : ¬ r.at_.k = 2) (hc : ctl r.at_.t = none) (hk : known r r.at_.t = true) : node (lk PM) r = .ok (add (cll r.at_.t r.at_.p) r) := by
 unfold node
 rw [if_neg (by simpa using h), hc]
 simp only
 rw [if_pos hk]
theorem node_prim (r : Rd) (op : Int) (h : ¬ r.at_.k = 2) (hc : ctl r.at_.t = none) (hk : known r r.at_.t = false) (hp : lk PM r.at_.t = some op) : node (lk PM) r = .ok (add (prm op r.at_.p) r) := by
 unfold node
 rw [if_neg (by simpa using h), hc]
 simp only
 rw [if_neg (by rw [hk]; decide), hp]
end Go.Proofs.YtdnklgceghllaaaGreatDoor.M
namespace Go.Proofs.YtdnklgceghllaaaGreatDoor.M
open Go.RowKit
open Go.Proofs
open Go.Proofs.YtdnklgceghllaaaGreatDoor.K (Tk kd)
open Go.Proofs.YtdnklgceghllaaaGreatDoor.Y (Nd Df Ps Bk e0)
open Go.Proofs.YtdnklgceghllaaaGreatDoor.D (Rd Er Re next must add put begin_ close turnElse turnWhile leave finish ctl isW lit prm cll ext setK setHas standIn node bodyN known PM)
open Go.Proofs.YtdnklgceghllaaaGreatDoor.R (ck cks own1 fits inn isNm lk)
set_option linter.unusedVariables false
set_option linter.unusedSimpArgs false
set_option maxRecDepth 100000
def CN (n : Nd) : Prop := ∀ (names : List ByteArray) (i : Nat × Bool), (∀ s ∈ names, isNm s = true) -> ck names n i = 0 -> vn n = true -> i.1 <= 32 -> ∀ (e : Ps) (ts1 : List Tk), (∀ t ∈ ts1, WfT t) -> ts1.map (·.t) = nw n -> ∀ (r : Rd) (ts2 : List Tk), r.rest = ts1 ++ ts2 -> St r i names ->
 ∃ n' a, sm n n' = true /\ ∀ m, bodyN (lk PM) e (m + ts1.length) r = bodyN (lk PM) e m (add n' { r with rest := ts2, at_ := a })
end Go.Proofs.YtdnklgceghllaaaGreatDoor.M
namespace Go.Proofs.YtdnklgceghllaaaGreatDoor.M
open Go.RowKit
open Go.Proofs
open Go.Proofs.YtdnklgceghllaaaGreatDoor.K (Tk kd)
open Go.Proofs.YtdnklgceghllaaaGreatDoor.Y (Nd Df Ps Bk e0)
open Go.Proofs.YtdnklgceghllaaaGreatDoor.D (Rd Er Re next must add name word define item numbered dataN bank itemsN finish ctl isW bodyN known PM)
open Go.Proofs.YtdnklgceghllaaaGreatDoor.R (ck cks isNm lk dfE dsE bkE chk)
set_option linter.unusedVariables false
set_option linter.unusedSimpArgs false
set_option maxRecDepth 100000
theorem next_ok (e : Ps) (r : Rd) (t : Tk) (ts : List Tk) (h : r.rest = t :: ts) : next e r = .ok { r with at_ := t, rest := ts } := by unfold next; rw [h]
theorem name_ok (e : Ps) (r : Rd) (t : Tk) (ts : List Tk) (h : r.rest = t :: ts) (hn : isNm t.t = true) (hk : known r t.t = false) : name e r = .ok { r with at_ := t, rest := ts } := by
 unfold name
 rw [next_ok e r t ts h]
 show (must (isNm t.t) t 101 >>= fun _ => must (!known r t.t) t 102 >>= fun _ => Except.ok { r with at_ := t, rest := ts }) = _
 rw [hn, hk]
 rfl
def vd (d : Df) : Bool := decide (0 <= d.v) && (decide (d.v <= 65535) && vns d.body)
end Go.Proofs.YtdnklgceghllaaaGreatDoor.M
namespace Go.Proofs.YtdnklgceghllaaaGreatDoor.M
open Go.Proofs.YtdnklgceghllaaaGreatDoor.K (Tk ans)
open Go.Proofs.YtdnklgceghllaaaGreatDoor.Y (Nd Df Ps)
open Go.Proofs.YtdnklgceghllaaaGreatDoor.D (Rd Er Re rres rd0 read_is PM)
open Go.Proofs.YtdnklgceghllaaaGreatDoor.R (lk)
set_option linter.unusedVariables false
set_option maxRecDepth 100000
def tx1 : ByteArray := ⟨#[58, 32, 109, 97, 105, 110, 32, 55, 32, 100, 114, 111, 112, 32, 59]⟩
def tx2 : ByteArray := ⟨#[58, 32, 109, 97, 105, 110, 32, 105, 102, 32, 59]⟩
def run (s : ByteArray) : Re := itemsG rsF imF knF (lkF PL) (T.place s.data.toList s.size) ((ans s).1.length + 1) (rd0 (ans s).1)
theorem pans_run (s : ByteArray) (h : (ans s).2.2 = 0) : pans s = rres (T.place s.data.toList s.size) (run s) := by
 unfold pans run
 rw [if_pos h, read_is, itemsF_is]
def mn : ByteArray := ⟨#[109, 97, 105, 110]⟩
def df1 : Df := ⟨1, mn, 0, [D.lit 7 (1, 8), D.prm 13 (1, 10)], (1, 3)⟩
theorem ans1 : (ans tx1).2.2 = 0 := by kernel_rfl
theorem ans2 : (ans tx2).2.2 = 0 := by kernel_rfl
theorem run1 : (match run tx1 with | .ok r => some (r.defs, r.banks) | .error _ => none) = some ([df1], []) := by kernel_rfl
theorem run2 : (match run tx2 with | .ok r => none | .error e => some e) = some ((1, 11), 104) := by kernel_rfl
theorem pans1 : pans tx1 = .ok ([df1], []) := by
 rw [pans_run _ ans1]
 have h := run1
 revert h
 cases run tx1 with
 | error e => intro h; cases h
 | ok r =>
  intro h
  simp only [Option.some.injEq, Prod.mk.injEq] at h
  show (if r.defs.any R.isMain = true then _ else _) = _
  rw [h.1, h.2, if_pos (by kernel_rfl)]
  simp
theorem pans2 : pans tx2 = .error ((1, 11), 104) := by
 rw [pans_run _ ans2]
 have h := run2
 revert h
 cases run tx2 with
 | error e => intro h; simp only [Option.some.injEq] at h; rw [h]; rfl
 | ok r => intro h; cases h
end Go.Proofs.YtdnklgceghllaaaGreatDoor.M
namespace Go.Proofs.YtdnklgceghllaaaGreatDoor.M
open Go.RowKit
open Go.Proofs
open Go.Proofs.YtdnklgceghllaaaGreatDoor.Y (Nd Df Ps Bk)
open Go.Proofs.YtdnklgceghllaaaGreatDoor.R (chk ck cks dfE dsE)
set_option linter.unusedVariables false
set_option maxRecDepth 100000
theorem e0_list : Y.e0.toList = [] := by rw [ByteArray.toList_eq]; rfl
theorem cks1 : cks [] [D.lit 7 (1, 8), D.prm 13 (1, 10)] (0, false) = 0 := by
 have a : R.own1 [] (D.lit 7 (1, 8)) (0, false) = 0 := by
  simp [R.own1, R.uses, R.usesF, D.lit, e0_list, R.fits, R.strc]
 have b : R.own1 [] (D.prm 13 (1, 10)) (0, false) = 0 := by
  simp [R.own1, R.uses, R.usesF, D.prm, e0_list, R.fits, R.strc]
 rw [R.cks_cons, R.ck_is, if_pos a]
 simp only [D.lit, R.cks_nil, if_true]
 rw [R.cks_cons, R.ck_is, if_pos b]
 simp [D.prm, R.cks_nil]
theorem chk1 : chk [df1] [] = 0 := by
 have hn : R.isNm mn = true := by rw [im_is]; kernel_rfl
 have hd : dfE [] df1 = 0 := by
  unfold dfE
  simp [df1, R.fieldsF, hn, cks1]
 unfold chk
 rw [dsE, if_pos hd]
 have hm : ([df1].any R.isMain) = true := by kernel_rfl
 simp [dsE, R.bkE, hm]
theorem chk0 : chk [] [] = 107 := rfl
theorem dcm7 : dcm 7 = ⟨#[55]⟩ := by
 have : (Lib.itoa (wrap64 7)) = [55] := by
  rw [show wrap64 7 = 7 from by unfold wrap64; omega]
  unfold Lib.itoa
  rw [if_neg (by decide)]
  exact Lib.decDigits_one (i := 7) (by decide)
 unfold dcm
 rw [this]
def pt1 : List UInt8 := [58, 32, 109, 97, 105, 110, 32, 55, 32, 100, 114, 111, 112, 32, 59, 10]
theorem ptx1 : ptx [df1] [] = pt1 := by
 have h : dw df1 = [wColon, mn, ⟨#[55]⟩, P.nm 13, wSemi] := by
  unfold dw
  simp only [df1, if_true, nws_cons, nws_nil, nw_is, D.lit, D.prm]
  simp [nwf, dcm7, pn]
 show endL (puts [] (dw df1)) = _
 rw [h]
 kernel_rfl
theorem prn1 : prn [df1] [] = (⟨pt1.toArray⟩, 0) := by
 unfold prn
 rw [if_pos chk1, ptx1, if_neg (by decide)]
theorem sm_refl (n : Nd) : sm n n = true := by
 refine Y.Nd.ind (P := fun n => sm n n = true) ?_ n
 intro n h1 h2
 have hl : ∀ l : List Nd, (∀ m ∈ l, sm m m = true) -> sml l l = true := by
  intro l
  induction l with
  | nil => intro _; rfl
  | cons a r ih =>
   intro h
   rw [sml_cc, h a (by simp), ih fun m hm => h m (by simp [hm])]
   rfl
 obtain ⟨k, op, v, nm, th, el, has, p⟩ := n
 rw [sm_mk, hl th h1, hl el h2]
 simp
theorem sml_refl : ∀ l : List Nd, sml l l = true
 | [] => rfl
 | n :: r => by rw [sml_cc, sm_refl, sml_refl r]; rfl
theorem smds_refl (l : List Df) : smds l l = true := smds_all l l rfl fun i a b ha hb => by
 rw [ha] at hb
 cases hb
 simp [smd, sml_refl]
theorem smbs_refl (l : List Bk) : smbs l l = true := smbs_all l l rfl fun i a b ha hb => by
 rw [ha] at hb
 cases hb
 simp [smb]
end Go.Proofs.YtdnklgceghllaaaGreatDoor.M
namespace Go.Proofs.YtdnklgceghllaaaGreatDoor.M
open Go.RowKit
open Go.Proofs
open Go.Proofs.YtdnklgceghllaaaGreatDoor.Y (Nd Df Ps Bk DV BV hid)
open Go.Proofs.YtdnklgceghllaaaGreatDoor.D (RdO New Er)
open Go.Proofs.YtdnklgceghllaaaGreatDoor.R (chk)
set_option linter.unusedVariables false
set_option linter.unusedSimpArgs false
set_option maxHeartbeats 4000000
set_option maxRecDepth 100000
theorem two_box (w : World) (dv xv p q : Value) : ∃ W2, (w.alloc (.cells #[dv, xv] 26)).alloc (.cells #[p, q] 28) = W2 /\ Below w.heap.size w W2 /\ W2.heap[w.heap.size]? = some (.cells [dv, xv].toArray 26 (0, 0)) /\ W2.heap[w.heap.size + 1]? = some (.cells [p, q].toArray 28 (0, 0)) :=
 ⟨_, rfl, ((Below.refl _ _).alloc (Nat.le_refl _) _).alloc (by simp) _, (Below.heap_alloc _ _ _ (by simp)).trans (heap_alloc_new w _), heap_alloc2_new w _ _⟩
theorem box2 {W w : World} {b : Nat} {x y : Value} {t : TypeId} (h : W.heap[b]? = some (.cells [x, y].toArray t (0, 0))) (k : Below W.heap.size W w) : w.cell? ⟨b, 0, none⟩ = some x /\ w.cell? ⟨b, 1, none⟩ = some y := by
 have h2 := (k.block _ (Array.getElem?_eq_some_iff.1 h).1).trans h
 exact ⟨S.cell_of w b 0 _ t _ h2 rfl, S.cell_of w b 1 _ t _ h2 rfl⟩
theorem dv_nil (w : World) (O : Nat -> Prop) : DV w O (.slice none 0 0) [] := ⟨none, 0, rfl, by simp, fun i d h => by simp at h⟩
theorem bv_nil (w : World) (O : Nat -> Prop) : BV w O (.slice none 0 0) [] := ⟨none, 0, rfl, fun i d h => by simp at h⟩
theorem prn1' : prn [df1] [] = (⟨#[58, 32, 109, 97, 105, 110, 32, 55, 32, 100, 114, 111, 112, 32, 59, 10]⟩, 0) := prn1
theorem df1_nm : ∀ d ∈ [df1], d.nm.size <= maxLen := fun d hd => by
 rw [List.mem_singleton] at hd
 rw [hd]
 decide
theorem fixed_any (W : World) (hT : P10 W) : Calls Tryz.prog 9 #[] W fun e w' => e = .returned (.bool true) /\ Below W.heap.size W w' := by
 have hc1 := parse_any tx1 (by decide) W
 rw [pans1] at hc1
 have hc2 := fun w => parse_any tx2 (by decide) w
 rw [pans2] at hc2
 unfold tx1 at hc1
 unfold tx2 at hc2
 have HT := hid hT
 clear hT
 go_enter Tryz.func9, Tryz.ntmps9
 go_wp2_with fail
 refine hc1.mono ?_
 rintro e w1 ⟨dv, xv, rfl, hD, hX, hb1⟩
 obtain ⟨p1, c1, e1, _⟩ := id hD
 obtain ⟨p2, c2, e2, _⟩ := id hX
 subst e1 e2
 simp only [List.length_cons, List.length_nil, Nat.zero_add] at hD hX ⊢
 obtain ⟨W2, hW2, hb2, u0, u1⟩ := two_box w1 (.slice p1 1 c1) (.slice p2 0 c2) (.int .i64 0) (.int .i64 0)
 have HH := hid (And.intro hD (And.intro hX (And.intro hb1 (And.intro hb2 (And.intro u0 u1)))))
 have HW2 := hid hW2
 clear hc1 hD hX hb1 hb2 u0 u1 hW2
 go_wp2_with fail
 rw [HW2.out]
 refine (hc2 W2).mono ?_
 rintro e w3 ⟨rfl, hb3⟩
 obtain ⟨W4, hW4, hb4, v0, v1⟩ := two_box w3 (.slice none 0 0) (.slice none 0 0) (.int .i64 1) (.int .i64 11)
 obtain ⟨hD, hX, hb1, hb2, u0, u1⟩ := HH.out
 have hb34 := hb3.trans (hb4.mono hb3.size)
 have hb24 : Below w1.heap.size w1 W4 := hb2.trans (hb34.mono hb2.size)
 obtain ⟨x0, x1⟩ := box2 u0 hb34
 obtain ⟨x2, x3⟩ := box2 u1 hb34
 obtain ⟨y0, y1⟩ := box2 v0 (Below.refl _ W4)
 obtain ⟨y2, y3⟩ := box2 v1 (Below.refl _ W4)
 have hB4 : Below W.heap.size W W4 := hb1.trans (hb24.mono hb1.size)
 have HX := hid (fun (w : World) (k : Below W4.heap.size W4 w) => box2 u0 (hb34.trans (k.mono hb34.size)))
 have HO := hid (fun (w : World) (k : Below W4.heap.size W4 w) => show (∀ j, New W w1 j -> j < w.heap.size) /\ DV w (New W w1) (.slice p1 1 c1) [df1] /\ BV w (New W w1) (.slice p2 0 c2) [] /\ P10 w /\ Below W.heap.size W w from by
  have hk : Below w1.heap.size w1 w := hb24.trans (k.mono hb24.size)
  have hW : Below W.heap.size W w := hB4.trans (k.mono hB4.size)
  exact ⟨fun j hj => Nat.lt_of_lt_of_le hj.2 hk.size, hD.below hk (fun j hj => hj.2), hX.below hk (fun j hj => hj.2), HT.out.below hW, hW⟩)
 clear hc2 hD hX hb1 hb2 u0 u1 v0 v1 hb3 hb4 hb34 hb24 hB4 HH
 have HW4 := hid hW4
 clear hW4
 go_upto_region 3 with fail
 rw [HW4.out]
 go_wp2_with fail
 obtain ⟨o1, o2, o3, o4, o5⟩ := HO.out W4 (Below.refl _ _)
 have hc3 := print_is [df1] [] df1_nm (by decide) _ _ _ W4 o1 o2 o3 o4
 rw [prn1'] at hc3
 clear o1 o2 o3 o4 o5
 refine hc3.mono ?_
 rintro e w5 ⟨rfl, hb5⟩
 obtain ⟨x0, x1⟩ := HX.out w5 hb5
 obtain ⟨o1, o2, o3, o4, o5⟩ := HO.out w5 hb5
 have hc4 := R.check_any [df1] [] df1_nm (by decide) _ _ _ w5 o1 o2 o3
 rw [chk1] at hc4
 have H5 := hid hb5
 clear hc3 hb5 o1 o2 o3 o4 o5 y0 y1 y2 y3 x2 x3
 go_wp2_with fail
 refine hc4.mono ?_
 rintro e w6 ⟨rfl, hb6⟩
 have hb46 := H5.out.trans (hb6.mono H5.out.size)
 obtain ⟨x0, x1⟩ := HX.out w6 hb46
 have hc5 := R.check_any [] [] (fun d hd => by cases hd) (by decide) _ _ (fun _ => False) w6 (fun j hj => hj.elim) (dv_nil _ _) (bv_nil _ _)
 rw [chk0] at hc5
 have H6 := hid hb46
 clear hc4 hb6 hb46 H5
 go_wp2_with fail
 refine hc5.mono ?_
 rintro e w7 ⟨rfl, hb7⟩
 have hb47 := H6.out.trans (hb7.mono H6.out.size)
 obtain ⟨x0, x1⟩ := HX.out w7 hb47
 obtain ⟨o1, o2, o3, o4, o5⟩ := HO.out w7 hb47
 have hc6 := same_any [df1] [df1] [] [] (by decide) _ _ _ _ _ w7 o1 o2 o3 o2 o3
 rw [smds_refl, smbs_refl, Bool.and_true] at hc6
 have H7 := hid hb47
 clear hc5 hb7 hb47 H6 o1 o2 o3 o4 o5
 go_wp2_with fail
 refine hc6.mono ?_
 rintro e w8 ⟨rfl, hb8⟩
 have hb48 := H7.out.trans (hb8.mono H7.out.size)
 obtain ⟨x0, x1⟩ := HX.out w8 hb48
 obtain ⟨o1, o2, o3, o4, o5⟩ := HO.out w8 hb48
 have hc7 := same_any [df1] [] [] [] (by decide) _ _ (.slice none 0 0) (.slice none 0 0) _ w8 o1 o2 o3 (dv_nil _ _) (bv_nil _ _)
 rw [show smds [df1] [] = false from rfl, Bool.false_and] at hc7
 have H8 := hid hb48
 clear hc6 hb8 hb48 H7 o1 o2 o3 o4 o5
 go_wp2_with fail
 refine hc7.mono ?_
 rintro e w9 ⟨rfl, hb9⟩
 have H9 := hid (HO.out w9 (H8.out.trans (hb9.mono H8.out.size))).2.2.2.2
 clear hc7 hb9
 go_wp2
 go_ret
 exact ⟨rfl, H9.out⟩
end Go.Proofs.YtdnklgceghllaaaGreatDoor.M
namespace Go.Proofs.YtdnklgceghllaaaGreatDoor.M
open Go.Proofs
open Go.Proofs.YtdnklgceghllaaaGreatDoor.K (Tk sc At wl wend wd ixb nxt sp spW Sp sp_take sp_to sp_wo)
set_option linter.unusedVariables false
set_option linter.unusedSimpArgs false
theorem wl_app (c : UInt8) (t : List UInt8) (hc : T.seen c.toNat = false) : ∀ y : List UInt8, wl (y ++ (c :: t)) = wl y
  | [] => by simp [wl, hc]
  | x :: y => by
    rw [List.cons_append, wl, wl, wl_app c t hc y]
theorem wend_app (y : List UInt8) (c : UInt8) (t : List UInt8) (hc : T.seen c.toNat = false) (i : Nat) (hi : i <= y.length) : wend (y ++ (c :: t)) i = wend y i := by
  unfold wend
  rw [List.drop_append_of_le_length hi, wl_app c t hc]
theorem ixb_app (c : Nat) (r : List UInt8) : ∀ (y : List UInt8) (k : Nat), ixb c y = some k -> ixb c (y ++ r) = some k
  | [], k, h => by cases h
  | x :: y, k, h => by
    rw [ixb] at h
    rw [List.cons_append, ixb]
    by_cases e : x.toNat = c
    · rw [if_pos e] at h ⊢; exact h
    · rw [if_neg e] at h ⊢
      cases hy : ixb c y with
      | none => rw [hy] at h; cases h
      | some q => rw [ixb_app c r y q hy]; rw [hy] at h; exact h
theorem nxt_app (c : Nat) (y r : List UInt8) (i k : Nat) (hi : i <= y.length) (h : nxt c y i = some k) : nxt c (y ++ r) i = some k := by
  unfold nxt at h ⊢
  rw [List.drop_append_of_le_length hi]
  cases hy : ixb c (y.drop i) with
  | none => rw [hy] at h; cases h
  | some q => rw [ixb_app c r _ q hy]; rw [hy] at h; exact h
theorem wd_app (y r : List UInt8) (i j : Nat) (hj : j <= y.length) (hi : i <= j) : wd (y ++ r) i j = wd y i j := by
  unfold wd
  rw [List.drop_append_of_le_length (by omega), List.take_append_of_le_length (by rw [List.length_drop]; omega)]
theorem sp_app (y : List UInt8) (c : UInt8) (t : List UInt8) (hc : T.seen c.toNat = false) (i : Nat) (hi : i < y.length) (q : Nat ⊕ Nat) (h : sp y i = .ok q) (hq : ∀ j, q = .inl j -> j < y.length) : sp (y ++ (c :: t)) i = .ok q := by
  have hw := wend_app y c t hc i (by omega)
  have h1 := K.wend_ge y i
  have h2 := K.wend_le y i (by omega)
  have hg : (y ++ (c :: t)).getD i 0 = y.getD i 0 := by
    rw [List.getD_eq_getElem?_getD, List.getD_eq_getElem?_getD, List.getElem?_append_left hi]
  unfold sp at h ⊢
  rw [hw, hg]
  by_cases e : wend y i = i
  · rw [if_pos e] at h ⊢; exact h
  · rw [if_neg e] at h ⊢
    unfold spW at h ⊢
    rw [wd_app y _ i (wend y i) h2 h1]
    by_cases e1 : wd y i (wend y i) = [92]
    · rw [if_pos e1] at h ⊢
      cases hn : nxt 10 y (wend y i) with
      | none =>
        rw [hn] at h
        cases h
        exact absurd (hq _ rfl) (by simp)
      | some k =>
        rw [hn] at h
        rw [nxt_app 10 y _ _ k h2 hn]
        exact h
    · rw [if_neg e1] at h ⊢
      by_cases e2 : wd y i (wend y i) = [40]
      · rw [if_pos e2] at h ⊢
        cases hn : nxt 41 y (wend y i) with
        | none => rw [hn] at h; cases h
        | some k =>
          rw [hn] at h
          rw [nxt_app 41 y _ _ k h2 hn]
          exact h
      · rw [if_neg e2] at h ⊢
        exact h
theorem sp_over (l : List UInt8) (b : Nat) (hb : b <= l.length) (t : List UInt8) (i : Nat) (hi : i < b) (q : Nat ⊕ Nat) (h : sp l i = .ok q) (h1 : ∀ j, q = .inl j -> j < b) (h2 : ∀ j, q = .inr j -> j <= b) : sp (l.take b ++ (32 :: t)) i = .ok q := by
  have hl : (l.take b).length = b := by rw [List.length_take]; omega
  have ht : sp (l.take b) i = .ok q := by
    cases q with
    | inl j => rw [sp_take l b i hb hi j (Nat.le_of_lt (h1 j rfl)) (.inl h)]; exact h
    | inr j => rw [sp_take l b i hb hi j (h2 j rfl) (.inr h)]; exact h
  exact sp_app (l.take b) 32 t (by decide) i (by omega) q ht (fun j hj => by rw [hl]; exact h1 j hj)
theorem sc_over (l : List UInt8) (b : Nat) (hb : b <= l.length) (t : List UInt8) (k : Nat) (q : Nat × Nat) (hk : (sc l).1[k]? = some q) (hq : q.2 = b) : At (l.take b ++ (32 :: t)) b ((sc l).1.take (k + 1)) := by
  have hX : (l.take b ++ (32 :: t)).length = b + (t.length + 1) := by rw [List.length_append, List.length_take, List.length_cons]; omega
  obtain ⟨i, a, hA, hP, h⟩ := At.ends l (P := fun i a => (i < b -> At (l.take b ++ (32 :: t)) i a) /\ ∀ (k : Nat) (q : Nat × Nat), a[k]? = some q -> q.2 = b -> At (l.take b ++ (32 :: t)) b (a.take (k + 1)))
    ⟨fun _ => At.start _, fun k q hk => by simp at hk⟩
    (fun i j a _ hP hi e => ⟨fun hj => by
      have h1 := sp_to l i j hi e
      exact (hP.1 (by omega)).to (by omega) (sp_over l b hb t i (by omega) _ e (fun j' e' => by cases e'; exact hj) (fun j' e' => by cases e')), hP.2⟩)
    (fun i j a _ hP hi e => by
      have h1 := sp_wo l i j hi e
      have hstep : j <= b -> At (l.take b ++ (32 :: t)) j (a ++ [(i, j)]) := fun hj => (hP.1 (by omega)).wo (by omega) (sp_over l b hb t i (by omega) _ e (fun j' e' => by cases e') (fun j' e' => by cases e'; exact hj))
      refine ⟨fun hj => hstep (by omega), fun k q hk hq => ?_⟩
      by_cases hka : k < a.length
      · rw [List.getElem?_append_left hka] at hk
        rw [List.take_append_of_le_length (by omega)]
        exact hP.2 k q hk hq
      · have hk0 : k = a.length := by
          have := (List.getElem?_eq_some_iff.1 hk).1
          simp at this
          omega
        subst hk0
        rw [List.getElem?_append_right (Nat.le_refl _), Nat.sub_self] at hk
        have hqe : q = (i, j) := by simpa using hk.symm
        have hjb : j = b := by rw [<- hq, hqe]
        have hfin := hstep (by omega)
        rw [hjb] at hfin ⊢
        have htk : (a ++ [(i, b)]).take (a.length + 1) = a ++ [(i, b)] := List.take_of_length_le (by simp)
        rw [htk]
        exact hfin)
  have he : (sc l).1 = a := by rcases h with ⟨_, e⟩ | ⟨x, _, _, e⟩ <;> rw [e]
  rw [he] at hk ⊢
  exact hP.2 k q hk hq
theorem at_pre {l : List UInt8} {i : Nat} {a : List (Nat × Nat)} (h : At l i a) : ∃ m, (sc l).1 = a ++ m := by
  have hg := h
  obtain ⟨h1, h2, n, h3, h4⟩ := h
  have : ∀ (n i : Nat) (a : List (Nat × Nat)), ∃ m, (K.scN l n i a).1 = a ++ m := by
    intro n
    induction n with
    | zero => intro i a; exact ⟨[], by simp [K.scN]⟩
    | succ n ih =>
      intro i a
      rw [K.scN]
      split
      · exact ⟨[], by simp⟩
      · split
        · exact ih _ _
        · exact ⟨[], by simp⟩
        · obtain ⟨m, hm⟩ := ih _ (a ++ [_])
          exact ⟨_ :: m, by rw [hm, List.append_assoc]; rfl⟩
  obtain ⟨m, hm⟩ := this n i a
  exact ⟨m, by rw [<- h4]; exact hm⟩
end Go.Proofs.YtdnklgceghllaaaGreatDoor.M
namespace Go.Proofs.YtdnklgceghllaaaGreatDoor.M
open Go.Proofs
open Go.Proofs.YtdnklgceghllaaaGreatDoor.K (Tk kd tk ans sc At wd ext_list sc_pre sc_err)
open Go.Proofs.YtdnklgceghllaaaGreatDoor.Y (Nd Df Ps Bk e0)
open Go.Proofs.YtdnklgceghllaaaGreatDoor.D (PM Er)
open Go.Proofs.YtdnklgceghllaaaGreatDoor.R (lk)
set_option linter.unusedVariables false
set_option linter.unusedSimpArgs false
theorem tk_over (s U : ByteArray) (b : Nat) (hb : b <= s.data.toList.length) (r : List UInt8) (hT : U.data.toList = s.data.toList.take b ++ r) (q : Nat × Nat) (h1 : q.1 <= q.2) (h2 : q.2 <= b) : tk U q = tk s q := by
 have hl : (s.data.toList.take b).length = b := by rw [List.length_take]; omega
 have hwd : wd U.data.toList q.1 q.2 = wd s.data.toList q.1 q.2 := by
  rw [hT, wd_app _ _ _ _ (by omega) h1, K.wd_take _ _ _ _ h2]
 have hpl : T.place U.data.toList q.1 = T.place s.data.toList q.1 := by
  have e1 := K.place_take U.data.toList b q.1 (by omega)
  have e2 := K.place_take s.data.toList b q.1 (by omega)
  rw [<- e1, <- e2, hT]
  congr 1
  rw [List.take_append_of_le_length (by omega), List.take_take]
  congr 1
  omega
 have hex : U.extract q.1 q.2 = s.extract q.1 q.2 := list_inj (by rw [ext_list, ext_list]; exact hwd)
 unfold tk
 rw [hwd, hpl, hex]
theorem first_pure (s : ByteArray) (x : Er) (h : pans s = .error x) (h1 : 100 <= x.2) (h2 : x.2 ≠ 105) (h3 : x.2 ≠ 107) :
  (ans s).2.2 = 0 /\ ∃ (k : Nat) (q : Nat × Nat), (sc s.data.toList).1[k]? = some q /\ x.1 = T.place s.data.toList q.1 /\ q.1 < q.2 /\ q.2 <= s.data.toList.length /\
   ((∀ (U : ByteArray) (t : List UInt8), U.data.toList = s.data.toList.take q.2 ++ (32 :: t) -> (ans U).2.2 = 0 -> pans U = .error x) \/
    ((tk s q).k = 2 /\ ∃ q2, (sc s.data.toList).1[k + 1]? = some q2 /\ bb (tk s q2))) := by
 have hz : (ans s).2.2 = 0 := by
  by_cases hz : (ans s).2.2 = 0
  ·exact hz
  ·exfalso
   unfold pans at h
   rw [if_neg hz] at h
   cases h
   unfold ans at h1
   split at h1
   ·simp at h1
   ·split at h1
    ·simp at h1
    ·rcases sc_err s.data.toList with e | e | e | e | e <;> (simp only at h1; rw [e] at h1; omega)
 have hts : (ans s).1 = (sc s.data.toList).1.map (tk s) := by
  unfold ans at hz ⊢
  by_cases c1 : 65536 < s.size
  ·rw [if_pos c1] at hz; simp at hz
  ·rw [if_neg c1] at hz ⊢
   by_cases c2 : (sc s.data.toList).2.2 = 0
   ·rw [if_pos c2]
   ·rw [if_neg c2] at hz; exact absurd hz c2
 have hr : D.read (lk PM) (T.place s.data.toList s.size) ((sc s.data.toList).1.map (tk s)) = .error x := by
  unfold pans at h
  rw [if_pos hz, hts] at h
  exact h
 have hpre := sc_pre s.data.toList
 have hin := (K.sc_in s.data.toList)
 refine ⟨hz, ?_⟩
 have hat : ∀ (P : List Tk) (t : Tk) (S0 : List Tk), (sc s.data.toList).1.map (tk s) = P ++ t :: S0 -> ∃ q, (sc s.data.toList).1[P.length]? = some q /\ tk s q = t /\ q.1 < q.2 /\ q.2 <= s.data.toList.length := fun P t S0 e => by
  have e1 : ((sc s.data.toList).1.map (tk s))[P.length]? = some t := by rw [e, List.getElem?_append_right (Nat.le_refl _), Nat.sub_self]; rfl
  rw [List.getElem?_map] at e1
  cases hq : (sc s.data.toList).1[P.length]? with
  | none => rw [hq] at e1; cases e1
  | some q =>
   rw [hq] at e1
   simp only [Option.map_some, Option.some.injEq] at e1
   obtain ⟨hk, hqe⟩ := List.getElem?_eq_some_iff.1 hq
   have := hpre.ends P.length hk
   rw [hqe] at this
   exact ⟨q, rfl, e1, this.1, Nat.le_trans this.2.1 hin.2.1⟩
 rcases read_first (lk PM) _ _ x hr with e | e | ⟨P, t, S0, e1, e2, e3⟩ | ⟨P, t, t2, S0, e1, e2, e3, e4⟩
 ·exact absurd e h2
 ·exact absurd e h3
 ·obtain ⟨q, hq, hqt, hlt, hle⟩ := hat P t S0 e1
  refine ⟨P.length, q, hq, by rw [e2, <- hqt]; rfl, hlt, hle, .inl fun U t' hT hz' => ?_⟩
  have hov := sc_over s.data.toList q.2 hle t' P.length q hq rfl
  rw [<- hT] at hov
  obtain ⟨m, hm⟩ := at_pre hov
  have htsT : (ans U).1 = (sc U.data.toList).1.map (tk U) := by
   unfold ans at hz' ⊢
   by_cases c1 : 65536 < U.size
   ·rw [if_pos c1] at hz'; simp at hz'
   ·rw [if_neg c1] at hz' ⊢
    by_cases c2 : (sc U.data.toList).2.2 = 0
    ·rw [if_pos c2]
    ·rw [if_neg c2] at hz'; exact absurd hz' c2
  have hkl := (List.getElem?_eq_some_iff.1 hq).1
  have hqe := (List.getElem?_eq_some_iff.1 hq).2
  have htake : ((sc s.data.toList).1.take (P.length + 1)).map (tk s) = P ++ [t] := by
   rw [List.map_take, e1, List.take_append, List.take_of_length_le (by omega), show P.length + 1 - P.length = 1 by omega]
   rfl
  have hends : ∀ q' ∈ (sc s.data.toList).1.take (P.length + 1), q'.1 <= q'.2 /\ q'.2 <= q.2 := fun q' hq' => by
   have ht := hpre.toks P.length hkl
   rw [hqe] at ht
   have hp := sc_pre (s.data.toList.take q.2)
   rw [ht] at hp
   obtain ⟨i, hi, hie⟩ := List.mem_iff_getElem.1 hq'
   have := hp.ends i hi
   rw [hie] at this
   exact ⟨Nat.le_of_lt this.1, this.2.1⟩
  have hmap : ((sc s.data.toList).1.take (P.length + 1)).map (tk U) = P ++ [t] := by
   rw [<- htake]
   exact List.map_congr_left fun q' hq' => tk_over s U q.2 hle (32 :: t') hT q' (hends q' hq').1 (hends q' hq').2
  unfold pans
  rw [if_pos hz', htsT, hm, List.map_append, hmap, List.append_assoc]
  exact e3 _ _
 ·obtain ⟨q, hq, hqt, hlt, hle⟩ := hat P t (t2 :: S0) e1
  obtain ⟨q2, hq2, hqt2, _, _⟩ := hat (P ++ [t]) t2 S0 (by rw [e1]; simp)
  refine ⟨P.length, q, hq, by rw [e2, <- hqt]; rfl, hlt, hle, .inr ⟨by rw [hqt]; exact e3, q2, by simpa using hq2, by rw [hqt2]; exact e4⟩⟩
open Go.RowKit
open Go.Proofs
open Go.Proofs.YtdnklgceghllaaaGreatDoor.Y (Nd Df Ps Bk hid)
set_option linter.unusedVariables false
set_option linter.unusedSimpArgs false
set_option maxHeartbeats 4000000
set_option maxRecDepth 100000
theorem place_few (l : List UInt8) : ∀ k, k <= l.length -> 1 <= (T.place l k).1 /\ (T.place l k).1 <= k + 1 /\ 1 <= (T.place l k).2 /\ (T.place l k).2 <= k + 1
 | 0, _ => by simp [T.place]
 | k + 1, h => by
  have ih := place_few l k (by omega)
  rw [T.place_succ l k (by omega)]
  unfold T.stepP
  split <;> simp only <;> omega
theorem offset_any (s : ByteArray) (hs : s.size <= 140737488355328) (a : Nat) (ha : a < s.size) (p : Int × Int) (hp : T.place s.data.toList a = p) (W : World) :
  Calls Tryz.prog 17 #[.string s, .agg #[.int .i64 p.1, .int .i64 p.2]] W fun e w' => e = .returned (.int .i64 (a : Int)) /\ Below W.heap.size W w' := by
 obtain ⟨W1, hW1⟩ : ∃ W1, W.alloc (.cells #[.int .i64 p.1, .int .i64 p.2] 28) = W1 := ⟨_, rfl⟩
 have v1 : W1.heap[W.heap.size]? = some (.cells [.int .i64 p.1, .int .i64 p.2].toArray 28 (0, 0)) := by rw [<- hW1]; exact heap_alloc_new W _
 have hB : Below W.heap.size W W1 := by rw [<- hW1]; exact (Below.refl _ _).alloc (Nat.le_refl _) _
 obtain ⟨x0, x1⟩ := box2 v1 (Below.refl _ W1)
 have hlen : s.data.toList.length = s.size := by rw [Array.length_toList]; rfl
 have HP := hid hp
 have HB := hid hB
 have HW1 := hid hW1
 clear hp hB v1 hW1
 go_enter Tryz.func17, Tryz.ntmps17
 go_wp2_with fail
 try rw [HW1.out]
 go_loopw [5, 6, 7] (fun x y i wr => ∃ k : Nat, i = .int .i64 (k : Int) /\ k <= a /\ x = .int .i64 (T.place s.data.toList k).1 /\ y = .int .i64 (T.place s.data.toList k).2 /\ wr = W1) (fun _ _ i _ => s.size - (intOf i).toNat)
 case atStart => exact ⟨0, rfl, Nat.zero_le _, rfl, rfl, rfl⟩
 case round =>
  obtain ⟨k, rfl, hk, rfl, rfl, hwr⟩ := hrel
  obtain rfl := hwr.symm
  have i1 : (k : Int) < (s.size : Int) := by omega
  have hks : k < s.size := by omega
  obtain ⟨f1, f2, f3, f4⟩ := place_few s.data.toList k (by omega)
  by_cases hka : k = a
  ·subst hka
   rw [HP.out] at f1 f2 f3 f4 ⊢
   have b1 : (p.1 == p.1) = true := by simp
   have b2 : (p.2 == p.2) = true := by simp
   go_wp2
   go_ret
   exact ⟨rfl, HB.out⟩
  ·have hne : ¬ T.place s.data.toList k = p := fun e => hka (K.place_inj s.data.toList k a (by omega) (by omega) (e.trans HP.out.symm))
   have hsucc := T.place_succ s.data.toList k (by omega)
   have hget : s.data.toList[k]'(by omega) = s[k] := rfl
   rw [hget] at hsucc
   unfold T.stepP at hsucc
   have HS := hid hsucc
   clear hsucc hget
   generalize T.place s.data.toList k = pl at *
   obtain ⟨x, y⟩ := pl
   obtain ⟨u, v⟩ := p
   simp only at *
   have hor : ¬ (x = u /\ y = v) := fun e => hne (by rw [e.1, e.2])
   by_cases hx : x = u
   ·have hy : ¬ y = v := fun e => hor ⟨hx, e⟩
    subst hx
    have b1 : (x == x) = true := by simp
    have b2 : (y == v) = false := by simpa using hy
    clear hor hne
    by_cases c10 : s[k].toNat = 10
    ·have b3 : ((s[k].toNat : Int) == 10) = true := by simp; omega
     have d3 : (s[k].toNat : Int) = 10 := by omega
     go_wp2
     go_roundw
     case rel => exact ⟨k + 1, by simp, by omega, by rw [HS.out, if_pos c10], by rw [HS.out, if_pos c10], trivial⟩
     case measure => simp only [intOf]; omega
    ·have b3 : ((s[k].toNat : Int) == 10) = false := by simp; omega
     have d3 : ¬ (s[k].toNat : Int) = 10 := by omega
     go_wp2
     go_roundw
     case rel => exact ⟨k + 1, by simp, by omega, by rw [HS.out, if_neg c10], by rw [HS.out, if_neg c10], trivial⟩
     case measure => simp only [intOf]; omega
   ·have b1 : (x == u) = false := by simpa using hx
    clear hor hne
    by_cases c10 : s[k].toNat = 10
    ·have b3 : ((s[k].toNat : Int) == 10) = true := by simp; omega
     have d3 : (s[k].toNat : Int) = 10 := by omega
     go_wp2
     go_roundw
     case rel => exact ⟨k + 1, by simp, by omega, by rw [HS.out, if_pos c10], by rw [HS.out, if_pos c10], trivial⟩
     case measure => simp only [intOf]; omega
    ·have b3 : ((s[k].toNat : Int) == 10) = false := by simp; omega
     have d3 : ¬ (s[k].toNat : Int) = 10 := by omega
     go_wp2
     go_roundw
     case rel => exact ⟨k + 1, by simp, by omega, by rw [HS.out, if_neg c10], by rw [HS.out, if_neg c10], trivial⟩
     case measure => simp only [intOf]; omega
open Go.Proofs.YtdnklgceghllaaaGreatDoor.K (Tk ans sc tk)
open Go.Proofs.YtdnklgceghllaaaGreatDoor.Y (Nd Df Ps Bk hid)
open Go.Proofs.YtdnklgceghllaaaGreatDoor.D (tkc isW)
set_option linter.unusedVariables false
set_option linter.unusedSimpArgs false
set_option maxHeartbeats 4000000
set_option maxRecDepth 100000
theorem place_once {l : List UInt8} {i : Nat} {a : List (Nat × Nat)} (h : K.Pre l i a) (j k : Nat) (q' q : Nat × Nat) (hj : a[j]? = some q') (hk : a[k]? = some q) (e : q'.1 = q.1) : j = k := by
 have mono : ∀ (d x : Nat) (hx : x + d + 1 < a.length), a[x].2 <= a[x + d + 1].1 := fun d => by
  induction d with
  | zero => intro x hx; exact h.rise x hx
  | succ d ih =>
   intro x hx
   have h1 := ih x (by omega)
   have h2 := h.ends (x + d + 1) (by omega)
   have h3 := h.rise (x + d + 1) hx
   have h4 : a[x + (d + 1) + 1].1 = a[x + d + 1 + 1].1 := rfl
   omega
 obtain ⟨hj1, hj2⟩ := List.getElem?_eq_some_iff.1 hj
 obtain ⟨hk1, hk2⟩ := List.getElem?_eq_some_iff.1 hk
 rcases Nat.lt_trichotomy j k with hlt | he | hgt
 ·have m := mono (k - j - 1) j (by omega)
  have n := h.ends j hj1
  have hkk : a[j + (k - j - 1) + 1]'(by omega) = a[k] := by congr 1; omega
  rw [hkk, hk2] at m
  rw [hj2] at m n
  omega
 ·exact he
 ·have m := mono (j - k - 1) k (by omega)
  have n := h.ends k hk1
  have hkk : a[k + (j - k - 1) + 1]'(by omega) = a[j] := by congr 1; omega
  rw [hkk, hj2] at m
  rw [hk2] at m n
  omega
theorem psF : Tryz.prog.underlying 28 = some (.struct (Tryz.prog.fieldsOf 28)) /\ Tryz.prog.fieldsOf 28 = #[⟨ "Line", 3, 0, false, "", "", 0⟩, ⟨ "Col", 3, 1, false, "", "", 8⟩] /\ Tryz.prog.stoodInHeld 28 = false /\ Tryz.prog.cellsOf 3 = 1 :=
 ⟨by kernel_rfl, by kernel_rfl, by kernel_rfl, by kernel_rfl⟩
theorem eql_ps (W : World) (a b u v : Int) : (binOp .eql 28 (.agg #[.int .i64 a, .int .i64 b]) (.agg #[.int .i64 u, .int .i64 v])).run Tryz.prog W = .ok (.bool (a == u && b == v)) W := by
 obtain ⟨hs, hf, hp, k3⟩ := psF
 rw [run_eql_struct, run_equalIn_agg W 9999 _ _ _ hs hp, hf]
 cases h1 : (a == u) <;> cases h2 : (b == v) <;> simp [go_sem, Tryz.underlying3, k3, Result.andThen, h1, h2]
theorem res_shown {a : Act} {w : World} {b : Nat} {c0 c1 c2 c3 c4 v : Value} (h4 : a.tmps.getD 4 undef = .pointer (some ⟨b, 0, none⟩)) (h5 : a.tmps.getD 5 undef = v) (k : w.heap[b]? = some (.cells #[c0, c1, c2, c3, c4] 53 (0, 0))) :
  (results Tryz.f16 a.tmps).run Tryz.prog w = .ok (.tuple #[.agg #[c0, c1, c2, c3, c4], v]) w := by
 have e0 := S.cell_of w b 0 [c0, c1, c2, c3, c4] _ _ k rfl
 have e1 := S.cell_of w b 1 [c0, c1, c2, c3, c4] _ _ k rfl
 have e2 := S.cell_of w b 2 [c0, c1, c2, c3, c4] _ _ k rfl
 have e3 := S.cell_of w b 3 [c0, c1, c2, c3, c4] _ _ k rfl
 have e4 := S.cell_of w b 4 [c0, c1, c2, c3, c4] _ _ k rfl
 rw [Array.getD_eq_getD_getElem?] at h4 h5
 simp [results, Tryz.results16, go_sem, h4, h5, e0, e1, e2, e3, e4]
theorem cell_other (w : World) (b c i : Nat) (cs : Array Value) (h : b ≠ c) : (w.setRow b cs).cell? ⟨c, i, none⟩ = w.cell? ⟨c, i, none⟩ :=
 World.cell?_of_block (w := w) (a := ⟨c, i, none⟩) (setRow_other w b c cs fun e => h e.symm)
def ShO (s : ByteArray) (k0 : Nat) (t : Tk) (W : World) (e : Ending) (w' : World) : Prop :=
 (∃ okb : Bool, e = .returned (.tuple #[.agg (tkc t).toArray, .bool okb]) /\ (okb = true -> ¬ (t.k = 2 /\ ∃ q2, (sc s.data.toList).1[k0 + 1]? = some q2 /\ bb (tk s q2)))) /\ Below W.heap.size W w'
theorem shown_any (s : ByteArray) (hs : s.size <= 140737488355328) (hz : (ans s).2.2 = 0) (k0 : Nat) (q : Nat × Nat) (hk0 : (sc s.data.toList).1[k0]? = some q) (p : Int × Int) (hp : T.place s.data.toList q.1 = p) (W : World) :
  Calls Tryz.prog 16 #[.string s, .agg #[.int .i64 p.1, .int .i64 p.2]] W (ShO s k0 (tk s q) W) := by
 have hS := fun w => K.scanw_any s hs w
 rw [hz] at hS
 have hcd : (sc s.data.toList).2.2 = 0 /\ (ans s).1 = (sc s.data.toList).1.map (tk s) := by
  unfold ans at hz ⊢
  by_cases c1 : 65536 < s.size
  ·rw [if_pos c1] at hz; simp at hz
  ·rw [if_neg c1] at hz ⊢
   by_cases c2 : (sc s.data.toList).2.2 = 0
   ·rw [if_pos c2]; exact ⟨c2, rfl⟩
   ·rw [if_neg c2] at hz; exact absurd hz c2
 have hlen : s.data.toList.length = s.size := by rw [Array.length_toList]; rfl
 have hin := K.sc_in s.data.toList
 have hpre := K.sc_pre s.data.toList
 obtain ⟨ts, hts⟩ : ∃ ts, (ans s).1 = ts := ⟨_, rfl⟩
 obtain ⟨sp, hsp⟩ : ∃ p, (ans s).2.1 = p := ⟨_, rfl⟩
 rw [hts, hsp] at hS
 have HS := hid hS
 have hpl : ∀ j t, ts[j]? = some t -> t.p = p -> j = k0 := fun j t hj e => by
  rw [<- hts, hcd.2, List.getElem?_map] at hj
  cases hq : (sc s.data.toList).1[j]? with
  | none => rw [hq] at hj; cases hj
  | some q' =>
   rw [hq] at hj
   simp only [Option.map_some, Option.some.injEq] at hj
   have m1 := hin.2.2 q' (List.mem_of_getElem? hq)
   have m2 := hin.2.2 q (List.mem_of_getElem? hk0)
   have e1 : T.place s.data.toList q'.1 = T.place s.data.toList q.1 := by rw [hp, <- e, <- hj]; rfl
   have e2 := K.place_inj s.data.toList q'.1 q.1 (by omega) (by omega) e1
   exact place_once hpre j k0 q' q hq hk0 e2
 have htk : ts[k0]? = some (tk s q) := by rw [<- hts, hcd.2, List.getElem?_map, hk0]; rfl
 have hnb : ∀ ok : Bool, (ok = true -> ¬ ((tk s q).k = 2 /\ ∃ t2, ts[k0 + 1]? = some t2 /\ bb t2)) -> (ok = true -> ¬ ((tk s q).k = 2 /\ ∃ q2, (sc s.data.toList).1[k0 + 1]? = some q2 /\ bb (tk s q2))) := fun ok h e ⟨h1, q2, h2, h3⟩ =>
  h e ⟨h1, tk s q2, by rw [<- hts, hcd.2, List.getElem?_map, h2]; rfl, h3⟩
 have HNB := hid hnb
 have HLN := hid (show ts.length <= 1000000 from by have := (ans_tks s).2; rw [hts] at this; exact this)
 clear hnb
 have HPL := hid hpl
 have HTK := hid htk
 have htp : (tk s q).p = p := hp
 have hk1 := (List.getElem?_eq_some_iff.1 htk).1
 clear hS hcd hin hpre hpl htk hts hsp hk0 hp hz
 obtain ⟨W1, hW1⟩ : ∃ W1, (W.alloc (.cells #[.int .i64 p.1, .int .i64 p.2] 28)).alloc (.cells #[.int .i64 0, .string ⟨#[]⟩, .int .u16 0, .int .i64 0, .int .i64 0] 53) = W1 := ⟨_, rfl⟩
 have hb1 : Below W.heap.size W W1 := by rw [<- hW1]; exact ((Below.refl _ _).alloc (Nat.le_refl _) _).alloc (by simp) _
 have u0 : W1.heap[W.heap.size]? = some (.cells [.int .i64 p.1, .int .i64 p.2].toArray 28 (0, 0)) := by
  rw [<- hW1, Below.heap_alloc _ _ _ (by simp)]; exact heap_alloc_new W _
 have u1 : W1.heap[W.heap.size + 1]? = some (.cells #[.int .i64 0, .string ⟨#[]⟩, .int .u16 0, .int .i64 0, .int .i64 0] 53 (0, 0)) := by
  rw [<- hW1]; exact heap_alloc2_new W _ _
 have HW1 := hid hW1
 have HB1 := hid (And.intro hb1 (And.intro u0 u1))
 clear hW1 hb1 u0 u1
 go_enter Tryz.func16, Tryz.ntmps16
 go_wp2_with fail
 rw [HW1.out]
 refine (HS.out W1).mono ?_
 rintro e w3 ⟨⟨v, rfl, hrow⟩, hb3⟩
 unfold K.pv K.pc
 obtain ⟨W4, hW4⟩ : ∃ W4, w3.alloc (.cells #[.int .i64 sp.1, .int .i64 sp.2] 28) = W4 := ⟨_, rfl⟩
 have hb4 : Below w3.heap.size w3 W4 := by rw [<- hW4]; exact (Below.refl _ _).alloc (Nat.le_refl _) _
 have hB4 := hb3.trans (hb4.mono hb3.size)
 have hLs : S.Ls tkc 5 W4 v ts := S.own_sl K.hT (S.own_kept hrow fun k _ hk => hb4.block k hk)
 obtain ⟨tp, tc, rfl, _, hSl⟩ := hLs.ex
 have hlo : ∀ b o, tp = some ⟨b, o, none⟩ -> W1.heap.size <= b := fun b o e => by subst e; exact (World.ownsRow.lt hrow b (by simp [Value.ownBlock])).1
 have HX := hid (And.intro hB4 hSl)
 have HL0 := hid hlo
 clear hlo
 have HW4 := hid hW4
 clear HS hrow hb3 hb4 hB4 hLs hSl hW4
 go_upto_region 2 with fail
 rw [HW4.out]
 go_wp2_with fail
 go_loopw [9] (fun x wr => ∃ k : Nat, x = .int .i64 (k : Int) /\ k <= k0 /\ Below W4.heap.size W4 wr) (fun x _ => ts.length - (intOf x).toNat)
 case atStart => exact ⟨0, rfl, Nat.zero_le _, Below.refl _ _⟩
 case round =>
  obtain ⟨k, rfl, hk, hB⟩ := hrel
  have hkl : k < ts.length := by omega
  have i1 : (k : Int) < (ts.length : Int) := by omega
  obtain ⟨b1, o1, rfl, a⟩ := HX.out.2 k ts[k] (List.getElem?_eq_getElem hkl)
  have HLO := hid (show W.heap.size + 1 ≠ b1 from by have h1 := HL0.out b1 o1 rfl; have h2 := (Array.getElem?_eq_some_iff.1 HB1.out.2.2).1; omega)
  have a' : ∀ (j : Nat) (x : Value), (tkc ts[k])[j]? = some x -> wr.cell? ⟨b1, o1 + k * 5 + j, none⟩ = some x := fun j x hx => by
   rw [hB.cell (World.block_lt_of_cell? W4 _ (a j x hx))]
   exact a j x hx
  have a0 := a' 0 _ rfl
  have a1 := a' 1 _ rfl
  have a2 := a' 2 _ rfl
  have a3 := a' 3 _ rfl
  have a4 := a' 4 _ rfl
  have hb0 := (hB.block _ (Nat.lt_of_lt_of_le (Array.getElem?_eq_some_iff.1 HB1.out.2.1).1 HX.out.1.size)).trans ((HX.out.1.block _ (Array.getElem?_eq_some_iff.1 HB1.out.2.1).1).trans HB1.out.2.1)
  obtain ⟨x0, x1⟩ := box2 hb0 (Below.refl _ wr)
  have HB := hid hB
  clear a a' hb0 hB
  by_cases hkk : k = k0
  ·subst hkk
   have hte : ts[k] = tk s q := by
    have := HTK.out
    rw [List.getElem?_eq_getElem hkl] at this
    exact Option.some.inj this
   rw [hte] at a0 a1 a2 a3 a4
   have hp2 := htp
   clear hte HPL
   obtain ⟨t, htq⟩ : ∃ t, tk s q = t := ⟨_, rfl⟩
   rw [htq] at a0 a1 a2 a3 a4 hp2 HNB
   have HTQ := hid htq
   clear htq htp
   obtain ⟨tk_, tt, tv, tpl⟩ := t
   obtain ⟨x, y⟩ := tpl
   simp only at *
   subst hp2
   have hee := fun w => eql_ps w x y x y
   have hff : (x == x && y == y) = true := by simp
   rw [hff] at hee
   clear hff
   have hu1 := (HB.out.block _ (Nat.lt_of_lt_of_le (Array.getElem?_eq_some_iff.1 HB1.out.2.2).1 HX.out.1.size)).trans ((HX.out.1.block _ (Array.getElem?_eq_some_iff.1 HB1.out.2.2).1).trans HB1.out.2.2)
   by_cases hn : k + 1 < ts.length
   ·obtain ⟨b2, o2, e2, c2⟩ := HX.out.2 (k + 1) ts[k + 1] (List.getElem?_eq_getElem hn)
    cases e2
    have hlk := HLN.out
    have c1 : wr.cell? ⟨b1, o1 + (k + 1) * 5 + 1, none⟩ = some (.string ts[k + 1].t) := by
     have := c2 1 _ rfl
     rw [HB.out.cell (World.block_lt_of_cell? _ _ this)]
     exact this
    have HN2 := hid (show ts[k + 1]? = some ts[k + 1] from List.getElem?_eq_getElem hn)
    clear c2
    generalize ts[k + 1] = t2 at *
    have i3 : (k : Int) + 1 < (ts.length : Int) := by omega
    have d2 : decide ((k : Int) + 1 < (ts.length : Int)) = true := decide_eq_true i3
    have i4 : ((k + 1 : Nat) : Int) < (ts.length : Int) := by omega
    by_cases hw1 : isW t2.t [98, 117, 102, 102, 101, 114] = true
    ·have q1 := D.isW_yes hw1
     go_wp2_with fail
     go_quiet (fail)
     go_wp2_with fail
     have HBW := hid (HB1.out.1.trans ((HX.out.1.trans (HB.out.mono HX.out.1.size)).mono HB1.out.1.size))
     by_cases hk2 : tk_ = 2
     ·subst hk2
      have b9 : ((2 : Int) != 2) = false := rfl
      have hS0 : (wr.drewN nq).drew.cell? ⟨b1, o1 + k * 5, none⟩ = some (.int .i64 2) /\ (wr.drewN nq).drew.cell? ⟨b1, o1 + k * 5 + 1, none⟩ = some (.string tt) /\ (wr.drewN nq).drew.cell? ⟨b1, o1 + k * 5 + 2, none⟩ = some (.int .u16 tv) /\ (wr.drewN nq).drew.cell? ⟨b1, o1 + k * 5 + 3, none⟩ = some (.int .i64 x) /\ (wr.drewN nq).drew.cell? ⟨b1, o1 + k * 5 + 4, none⟩ = some (.int .i64 y) := ⟨a0, a1, a2, a3, a4⟩
      have hB0 : Below W.heap.size W (wr.drewN nq).drew := HBW.out.trans (Below.mono ⟨rfl, rfl, rfl, Nat.le_refl _, fun _ _ => rfl⟩ HBW.out.size)
      have d1 : (wr.drewN nq).drew.heap[W.heap.size + 1]? = some (.cells #[.int .i64 0, .string ⟨#[]⟩, .int .u16 0, .int .i64 0, .int .i64 0] 53 (0, 0)) := hu1
      clear a0 a1 a2 a3 a4 hu1 x0 x1
      refine wp_region_held_drew (S := fun wz : World => wz.cell? ⟨b1, o1 + k * 5, none⟩ = some (.int .i64 2) /\ wz.cell? ⟨b1, o1 + k * 5 + 1, none⟩ = some (.string tt) /\ wz.cell? ⟨b1, o1 + k * 5 + 2, none⟩ = some (.int .u16 tv) /\ wz.cell? ⟨b1, o1 + k * 5 + 3, none⟩ = some (.int .i64 x) /\ wz.cell? ⟨b1, o1 + k * 5 + 4, none⟩ = some (.int .i64 y)) (by kernel_rfl) hS0 (fun hHeld => ?_)
      clear hS0
      generalize (wr.drewN nq).drew = y0 at *
      refine D.zH (is := [0, 1, 2]) ?_
      iterate 3
       refine D.yH (v := ?_) rfl (by kernel_rfl) (fun c a w h => h) (by rfl) ?_ hHeld ?_
       rotate_left
       ·(intro w hSw; (try dsimp only at hSw); go_simp; try with_reducible rfl)
       simp only [D.pts]
      refine D.eH ?_
      refine D.xH 3 (v := ?_) rfl (by kernel_rfl) (fun c a w h => h) (by rfl) ?_ hHeld ?_
      rotate_left
      ·(intro w hSw; (try dsimp only at hSw); obtain ⟨a0, a1, a2, a3, a4⟩ := hSw; go_simp; try with_reducible rfl)
      simp only [D.pts]
      refine D.zH (is := [4, 5, 6, 7]) ?_
      iterate 4
       refine D.yH (v := ?_) rfl (by kernel_rfl) (fun c a w h => h) (by rfl) ?_ hHeld ?_
       rotate_left
       ·(intro w hSw; (try dsimp only at hSw); go_simp; try with_reducible rfl)
       simp only [D.pts]
      refine D.eH ?_
      refine D.xH 8 (v := ?_) rfl (by kernel_rfl) (fun c a w h => h) (by rfl) ?_ hHeld ?_
      rotate_left
      ·(intro w hSw; (try dsimp only at hSw); obtain ⟨a0, a1, a2, a3, a4⟩ := hSw; go_simp; try with_reducible rfl)
      simp only [D.pts]
      refine D.zH (is := [9, 10, 11, 12, 13]) ?_
      iterate 5
       refine D.yH (v := ?_) rfl (by kernel_rfl) (fun c a w h => h) (by rfl) ?_ hHeld ?_
       rotate_left
       ·(intro w hSw; (try dsimp only at hSw); go_simp; try with_reducible rfl)
       simp only [D.pts]
      refine D.eH ?_
      refine wpAnyH_ready (rs := [14]) (by kernel_rfl) (by simp) ?_
      refine AllReadyH.cons rfl (fun K hK => ?_) AllReadyH.nil
      rw [if_pos (by rfl)]
      refine wp_store_row 53 _ _ rfl (W.heap.size + 1) _ rfl rfl 53 _ d1 (by exact D.sizeTK) (by rfl) (by simp [Value.oneCell']) ?_
      refine hK.out _ _ ?_ (fun hHeld => ?_)
      ·have ho := fun j => cell_other y0 (W.heap.size + 1) b1 (o1 + k * 5 + j) #[.int .i64 2, .string tt, .int .u16 tv, .int .i64 x, .int .i64 y] HLO.out
       exact ⟨(ho 0).trans hHeld.1, (ho 1).trans hHeld.2.1, (ho 2).trans hHeld.2.2.1, (ho 3).trans hHeld.2.2.2.1, (ho 4).trans hHeld.2.2.2.2⟩
      clear hK K
      try simp only [D.pts]
      have e1 := setRow_heap y0 (W.heap.size + 1) _ #[.int .i64 2, .string tt, .int .u16 tv, .int .i64 x, .int .i64 y] _ _ d1
      have hBe := D.row_below hB0 (W.heap.size + 1) (by omega) #[.int .i64 2, .string tt, .int .u16 tv, .int .i64 x, .int .i64 y]
      clear d1 hB0
      generalize y0.setRow (W.heap.size + 1) #[.int .i64 2, .string tt, .int .u16 tv, .int .i64 x, .int .i64 y] = y1 at *
      refine D.xH 15 (v := ?_) rfl (by kernel_rfl) (fun c a w h => h) (by rfl) ?_ hHeld ?_
      rotate_left
      ·(intro w hSw; (try dsimp only at hSw); go_simp; try with_reducible rfl)
      simp only [D.pts]
      refine wpAnyH_done (by kernel_rfl) ?_ _
      have HZ := hid (And.intro e1 hBe)
      clear e1 hBe hHeld
      go_wp2
      refine bodyPost_ret (v := .tuple #[.agg #[.int .i64 2, .string tt, .int .u16 tv, .int .i64 x, .int .i64 y], .bool false]) (res_shown rfl rfl HZ.out.1) rfl ?_
      rw [HTQ.out]
      refine ⟨⟨false, rfl, ?_⟩, HZ.out.2⟩
      exact fun h => absurd h (by decide)
     ·have b9 : (tk_ != 2) = true := by simpa using hk2
      have hS0 : (wr.drewN nq).drew.cell? ⟨b1, o1 + k * 5, none⟩ = some (.int .i64 tk_) /\ (wr.drewN nq).drew.cell? ⟨b1, o1 + k * 5 + 1, none⟩ = some (.string tt) /\ (wr.drewN nq).drew.cell? ⟨b1, o1 + k * 5 + 2, none⟩ = some (.int .u16 tv) /\ (wr.drewN nq).drew.cell? ⟨b1, o1 + k * 5 + 3, none⟩ = some (.int .i64 x) /\ (wr.drewN nq).drew.cell? ⟨b1, o1 + k * 5 + 4, none⟩ = some (.int .i64 y) := ⟨a0, a1, a2, a3, a4⟩
      have hB0 : Below W.heap.size W (wr.drewN nq).drew := HBW.out.trans (Below.mono ⟨rfl, rfl, rfl, Nat.le_refl _, fun _ _ => rfl⟩ HBW.out.size)
      have d1 : (wr.drewN nq).drew.heap[W.heap.size + 1]? = some (.cells #[.int .i64 0, .string ⟨#[]⟩, .int .u16 0, .int .i64 0, .int .i64 0] 53 (0, 0)) := hu1
      clear a0 a1 a2 a3 a4 hu1 x0 x1
      refine wp_region_held_drew (S := fun wz : World => wz.cell? ⟨b1, o1 + k * 5, none⟩ = some (.int .i64 tk_) /\ wz.cell? ⟨b1, o1 + k * 5 + 1, none⟩ = some (.string tt) /\ wz.cell? ⟨b1, o1 + k * 5 + 2, none⟩ = some (.int .u16 tv) /\ wz.cell? ⟨b1, o1 + k * 5 + 3, none⟩ = some (.int .i64 x) /\ wz.cell? ⟨b1, o1 + k * 5 + 4, none⟩ = some (.int .i64 y)) (by kernel_rfl) hS0 (fun hHeld => ?_)
      clear hS0
      generalize (wr.drewN nq).drew = y0 at *
      refine D.zH (is := [0, 1, 2]) ?_
      iterate 3
       refine D.yH (v := ?_) rfl (by kernel_rfl) (fun c a w h => h) (by rfl) ?_ hHeld ?_
       rotate_left
       ·(intro w hSw; (try dsimp only at hSw); go_simp; try with_reducible rfl)
       simp only [D.pts]
      refine D.eH ?_
      refine D.xH 3 (v := ?_) rfl (by kernel_rfl) (fun c a w h => h) (by rfl) ?_ hHeld ?_
      rotate_left
      ·(intro w hSw; (try dsimp only at hSw); obtain ⟨a0, a1, a2, a3, a4⟩ := hSw; go_simp; try with_reducible rfl)
      simp only [D.pts]
      refine D.zH (is := [4, 5, 6, 7]) ?_
      iterate 4
       refine D.yH (v := ?_) rfl (by kernel_rfl) (fun c a w h => h) (by rfl) ?_ hHeld ?_
       rotate_left
       ·(intro w hSw; (try dsimp only at hSw); go_simp; try with_reducible rfl)
       simp only [D.pts]
      refine D.eH ?_
      refine D.xH 8 (v := ?_) rfl (by kernel_rfl) (fun c a w h => h) (by rfl) ?_ hHeld ?_
      rotate_left
      ·(intro w hSw; (try dsimp only at hSw); obtain ⟨a0, a1, a2, a3, a4⟩ := hSw; go_simp; try with_reducible rfl)
      simp only [D.pts]
      refine D.zH (is := [9, 10]) ?_
      iterate 2
       refine D.yH (v := ?_) rfl (by kernel_rfl) (fun c a w h => h) (by rfl) ?_ hHeld ?_
       rotate_left
       ·(intro w hSw; (try dsimp only at hSw); go_simp; try with_reducible rfl)
       simp only [D.pts]
      refine D.eH ?_
      refine wpAnyH_take (i := 11) (v := undef) rfl (by kernel_rfl) (by kernel_rfl) (by kernel_rfl) (fun c a w h => h) (Or.inr ⟨by rfl, rfl⟩) hHeld ?_
      simp only [D.pts]
      refine wpAnyH_take (i := 12) (v := undef) rfl (by kernel_rfl) (by kernel_rfl) (by kernel_rfl) (fun c a w h => h) (Or.inr ⟨by rfl, rfl⟩) hHeld ?_
      simp only [D.pts]
      refine D.xH 13 (v := ?_) rfl (by kernel_rfl) (fun c a w h => h) (by rfl) ?_ hHeld ?_
      rotate_left
      ·(intro w hSw; (try dsimp only at hSw); go_simp; try with_reducible rfl)
      simp only [D.pts]
      refine wpAnyH_ready (rs := [14]) (by kernel_rfl) (by simp) ?_
      refine AllReadyH.cons rfl (fun K hK => ?_) AllReadyH.nil
      rw [if_pos (by rfl)]
      refine wp_store_row 53 _ _ rfl (W.heap.size + 1) _ rfl rfl 53 _ d1 (by exact D.sizeTK) (by rfl) (by simp [Value.oneCell']) ?_
      refine hK.out _ _ ?_ (fun hHeld => ?_)
      ·have ho := fun j => cell_other y0 (W.heap.size + 1) b1 (o1 + k * 5 + j) #[.int .i64 tk_, .string tt, .int .u16 tv, .int .i64 x, .int .i64 y] HLO.out
       exact ⟨(ho 0).trans hHeld.1, (ho 1).trans hHeld.2.1, (ho 2).trans hHeld.2.2.1, (ho 3).trans hHeld.2.2.2.1, (ho 4).trans hHeld.2.2.2.2⟩
      clear hK K
      try simp only [D.pts]
      have e1 := setRow_heap y0 (W.heap.size + 1) _ #[.int .i64 tk_, .string tt, .int .u16 tv, .int .i64 x, .int .i64 y] _ _ d1
      have hBe := D.row_below hB0 (W.heap.size + 1) (by omega) #[.int .i64 tk_, .string tt, .int .u16 tv, .int .i64 x, .int .i64 y]
      clear d1 hB0
      generalize y0.setRow (W.heap.size + 1) #[.int .i64 tk_, .string tt, .int .u16 tv, .int .i64 x, .int .i64 y] = y1 at *
      refine D.xH 15 (v := ?_) rfl (by kernel_rfl) (fun c a w h => h) (by rfl) ?_ hHeld ?_
      rotate_left
      ·(intro w hSw; (try dsimp only at hSw); go_simp; try with_reducible rfl)
      simp only [D.pts]
      refine wpAnyH_done (by kernel_rfl) ?_ _
      have HZ := hid (And.intro e1 hBe)
      clear e1 hBe hHeld
      go_wp2
      refine bodyPost_ret (v := .tuple #[.agg #[.int .i64 tk_, .string tt, .int .u16 tv, .int .i64 x, .int .i64 y], .bool true]) (res_shown rfl rfl HZ.out.1) rfl ?_
      rw [HTQ.out]
      refine ⟨⟨true, rfl, ?_⟩, HZ.out.2⟩
      exact HNB.out true fun _ h => hk2 h.1
    ·have hw1' : isW t2.t [98, 117, 102, 102, 101, 114] = false := by simpa using hw1
     have q1 := D.isW_no hw1'
     by_cases hw2 : isW t2.t [98, 97, 110, 107] = true
     ·have q2 := D.isW_yes hw2
      go_wp2_with fail
      go_quiet (fail)
      go_wp2_with fail
      have HBW := hid (HB1.out.1.trans ((HX.out.1.trans (HB.out.mono HX.out.1.size)).mono HB1.out.1.size))
      by_cases hk2 : tk_ = 2
      ·subst hk2
       have b9 : ((2 : Int) != 2) = false := rfl
       have hS0 : (wr.drewN nq).drew.cell? ⟨b1, o1 + k * 5, none⟩ = some (.int .i64 2) /\ (wr.drewN nq).drew.cell? ⟨b1, o1 + k * 5 + 1, none⟩ = some (.string tt) /\ (wr.drewN nq).drew.cell? ⟨b1, o1 + k * 5 + 2, none⟩ = some (.int .u16 tv) /\ (wr.drewN nq).drew.cell? ⟨b1, o1 + k * 5 + 3, none⟩ = some (.int .i64 x) /\ (wr.drewN nq).drew.cell? ⟨b1, o1 + k * 5 + 4, none⟩ = some (.int .i64 y) := ⟨a0, a1, a2, a3, a4⟩
       have hB0 : Below W.heap.size W (wr.drewN nq).drew := HBW.out.trans (Below.mono ⟨rfl, rfl, rfl, Nat.le_refl _, fun _ _ => rfl⟩ HBW.out.size)
       have d1 : (wr.drewN nq).drew.heap[W.heap.size + 1]? = some (.cells #[.int .i64 0, .string ⟨#[]⟩, .int .u16 0, .int .i64 0, .int .i64 0] 53 (0, 0)) := hu1
       clear a0 a1 a2 a3 a4 hu1 x0 x1
       refine wp_region_held_drew (S := fun wz : World => wz.cell? ⟨b1, o1 + k * 5, none⟩ = some (.int .i64 2) /\ wz.cell? ⟨b1, o1 + k * 5 + 1, none⟩ = some (.string tt) /\ wz.cell? ⟨b1, o1 + k * 5 + 2, none⟩ = some (.int .u16 tv) /\ wz.cell? ⟨b1, o1 + k * 5 + 3, none⟩ = some (.int .i64 x) /\ wz.cell? ⟨b1, o1 + k * 5 + 4, none⟩ = some (.int .i64 y)) (by kernel_rfl) hS0 (fun hHeld => ?_)
       clear hS0
       generalize (wr.drewN nq).drew = y0 at *
       refine D.zH (is := [0, 1, 2]) ?_
       iterate 3
        refine D.yH (v := ?_) rfl (by kernel_rfl) (fun c a w h => h) (by rfl) ?_ hHeld ?_
        rotate_left
        ·(intro w hSw; (try dsimp only at hSw); go_simp; try with_reducible rfl)
        simp only [D.pts]
       refine D.eH ?_
       refine D.xH 3 (v := ?_) rfl (by kernel_rfl) (fun c a w h => h) (by rfl) ?_ hHeld ?_
       rotate_left
       ·(intro w hSw; (try dsimp only at hSw); obtain ⟨a0, a1, a2, a3, a4⟩ := hSw; go_simp; try with_reducible rfl)
       simp only [D.pts]
       refine D.zH (is := [4, 5, 6, 7]) ?_
       iterate 4
        refine D.yH (v := ?_) rfl (by kernel_rfl) (fun c a w h => h) (by rfl) ?_ hHeld ?_
        rotate_left
        ·(intro w hSw; (try dsimp only at hSw); go_simp; try with_reducible rfl)
        simp only [D.pts]
       refine D.eH ?_
       refine D.xH 8 (v := ?_) rfl (by kernel_rfl) (fun c a w h => h) (by rfl) ?_ hHeld ?_
       rotate_left
       ·(intro w hSw; (try dsimp only at hSw); obtain ⟨a0, a1, a2, a3, a4⟩ := hSw; go_simp; try with_reducible rfl)
       simp only [D.pts]
       refine D.zH (is := [9, 10, 11, 12, 13]) ?_
       iterate 5
        refine D.yH (v := ?_) rfl (by kernel_rfl) (fun c a w h => h) (by rfl) ?_ hHeld ?_
        rotate_left
        ·(intro w hSw; (try dsimp only at hSw); go_simp; try with_reducible rfl)
        simp only [D.pts]
       refine D.eH ?_
       refine wpAnyH_ready (rs := [14]) (by kernel_rfl) (by simp) ?_
       refine AllReadyH.cons rfl (fun K hK => ?_) AllReadyH.nil
       rw [if_pos (by rfl)]
       refine wp_store_row 53 _ _ rfl (W.heap.size + 1) _ rfl rfl 53 _ d1 (by exact D.sizeTK) (by rfl) (by simp [Value.oneCell']) ?_
       refine hK.out _ _ ?_ (fun hHeld => ?_)
       ·have ho := fun j => cell_other y0 (W.heap.size + 1) b1 (o1 + k * 5 + j) #[.int .i64 2, .string tt, .int .u16 tv, .int .i64 x, .int .i64 y] HLO.out
        exact ⟨(ho 0).trans hHeld.1, (ho 1).trans hHeld.2.1, (ho 2).trans hHeld.2.2.1, (ho 3).trans hHeld.2.2.2.1, (ho 4).trans hHeld.2.2.2.2⟩
       clear hK K
       try simp only [D.pts]
       have e1 := setRow_heap y0 (W.heap.size + 1) _ #[.int .i64 2, .string tt, .int .u16 tv, .int .i64 x, .int .i64 y] _ _ d1
       have hBe := D.row_below hB0 (W.heap.size + 1) (by omega) #[.int .i64 2, .string tt, .int .u16 tv, .int .i64 x, .int .i64 y]
       clear d1 hB0
       generalize y0.setRow (W.heap.size + 1) #[.int .i64 2, .string tt, .int .u16 tv, .int .i64 x, .int .i64 y] = y1 at *
       refine D.xH 15 (v := ?_) rfl (by kernel_rfl) (fun c a w h => h) (by rfl) ?_ hHeld ?_
       rotate_left
       ·(intro w hSw; (try dsimp only at hSw); go_simp; try with_reducible rfl)
       simp only [D.pts]
       refine wpAnyH_done (by kernel_rfl) ?_ _
       have HZ := hid (And.intro e1 hBe)
       clear e1 hBe hHeld
       go_wp2
       refine bodyPost_ret (v := .tuple #[.agg #[.int .i64 2, .string tt, .int .u16 tv, .int .i64 x, .int .i64 y], .bool false]) (res_shown rfl rfl HZ.out.1) rfl ?_
       rw [HTQ.out]
       refine ⟨⟨false, rfl, ?_⟩, HZ.out.2⟩
       exact fun h => absurd h (by decide)
      ·have b9 : (tk_ != 2) = true := by simpa using hk2
       have hS0 : (wr.drewN nq).drew.cell? ⟨b1, o1 + k * 5, none⟩ = some (.int .i64 tk_) /\ (wr.drewN nq).drew.cell? ⟨b1, o1 + k * 5 + 1, none⟩ = some (.string tt) /\ (wr.drewN nq).drew.cell? ⟨b1, o1 + k * 5 + 2, none⟩ = some (.int .u16 tv) /\ (wr.drewN nq).drew.cell? ⟨b1, o1 + k * 5 + 3, none⟩ = some (.int .i64 x) /\ (wr.drewN nq).drew.cell? ⟨b1, o1 + k * 5 + 4, none⟩ = some (.int .i64 y) := ⟨a0, a1, a2, a3, a4⟩
       have hB0 : Below W.heap.size W (wr.drewN nq).drew := HBW.out.trans (Below.mono ⟨rfl, rfl, rfl, Nat.le_refl _, fun _ _ => rfl⟩ HBW.out.size)
       have d1 : (wr.drewN nq).drew.heap[W.heap.size + 1]? = some (.cells #[.int .i64 0, .string ⟨#[]⟩, .int .u16 0, .int .i64 0, .int .i64 0] 53 (0, 0)) := hu1
       clear a0 a1 a2 a3 a4 hu1 x0 x1
       refine wp_region_held_drew (S := fun wz : World => wz.cell? ⟨b1, o1 + k * 5, none⟩ = some (.int .i64 tk_) /\ wz.cell? ⟨b1, o1 + k * 5 + 1, none⟩ = some (.string tt) /\ wz.cell? ⟨b1, o1 + k * 5 + 2, none⟩ = some (.int .u16 tv) /\ wz.cell? ⟨b1, o1 + k * 5 + 3, none⟩ = some (.int .i64 x) /\ wz.cell? ⟨b1, o1 + k * 5 + 4, none⟩ = some (.int .i64 y)) (by kernel_rfl) hS0 (fun hHeld => ?_)
       clear hS0
       generalize (wr.drewN nq).drew = y0 at *
       refine D.zH (is := [0, 1, 2]) ?_
       iterate 3
        refine D.yH (v := ?_) rfl (by kernel_rfl) (fun c a w h => h) (by rfl) ?_ hHeld ?_
        rotate_left
        ·(intro w hSw; (try dsimp only at hSw); go_simp; try with_reducible rfl)
        simp only [D.pts]
       refine D.eH ?_
       refine D.xH 3 (v := ?_) rfl (by kernel_rfl) (fun c a w h => h) (by rfl) ?_ hHeld ?_
       rotate_left
       ·(intro w hSw; (try dsimp only at hSw); obtain ⟨a0, a1, a2, a3, a4⟩ := hSw; go_simp; try with_reducible rfl)
       simp only [D.pts]
       refine D.zH (is := [4, 5, 6, 7]) ?_
       iterate 4
        refine D.yH (v := ?_) rfl (by kernel_rfl) (fun c a w h => h) (by rfl) ?_ hHeld ?_
        rotate_left
        ·(intro w hSw; (try dsimp only at hSw); go_simp; try with_reducible rfl)
        simp only [D.pts]
       refine D.eH ?_
       refine D.xH 8 (v := ?_) rfl (by kernel_rfl) (fun c a w h => h) (by rfl) ?_ hHeld ?_
       rotate_left
       ·(intro w hSw; (try dsimp only at hSw); obtain ⟨a0, a1, a2, a3, a4⟩ := hSw; go_simp; try with_reducible rfl)
       simp only [D.pts]
       refine D.zH (is := [9, 10]) ?_
       iterate 2
        refine D.yH (v := ?_) rfl (by kernel_rfl) (fun c a w h => h) (by rfl) ?_ hHeld ?_
        rotate_left
        ·(intro w hSw; (try dsimp only at hSw); go_simp; try with_reducible rfl)
        simp only [D.pts]
       refine D.eH ?_
       refine wpAnyH_take (i := 11) (v := undef) rfl (by kernel_rfl) (by kernel_rfl) (by kernel_rfl) (fun c a w h => h) (Or.inr ⟨by rfl, rfl⟩) hHeld ?_
       simp only [D.pts]
       refine wpAnyH_take (i := 12) (v := undef) rfl (by kernel_rfl) (by kernel_rfl) (by kernel_rfl) (fun c a w h => h) (Or.inr ⟨by rfl, rfl⟩) hHeld ?_
       simp only [D.pts]
       refine D.xH 13 (v := ?_) rfl (by kernel_rfl) (fun c a w h => h) (by rfl) ?_ hHeld ?_
       rotate_left
       ·(intro w hSw; (try dsimp only at hSw); go_simp; try with_reducible rfl)
       simp only [D.pts]
       refine wpAnyH_ready (rs := [14]) (by kernel_rfl) (by simp) ?_
       refine AllReadyH.cons rfl (fun K hK => ?_) AllReadyH.nil
       rw [if_pos (by rfl)]
       refine wp_store_row 53 _ _ rfl (W.heap.size + 1) _ rfl rfl 53 _ d1 (by exact D.sizeTK) (by rfl) (by simp [Value.oneCell']) ?_
       refine hK.out _ _ ?_ (fun hHeld => ?_)
       ·have ho := fun j => cell_other y0 (W.heap.size + 1) b1 (o1 + k * 5 + j) #[.int .i64 tk_, .string tt, .int .u16 tv, .int .i64 x, .int .i64 y] HLO.out
        exact ⟨(ho 0).trans hHeld.1, (ho 1).trans hHeld.2.1, (ho 2).trans hHeld.2.2.1, (ho 3).trans hHeld.2.2.2.1, (ho 4).trans hHeld.2.2.2.2⟩
       clear hK K
       try simp only [D.pts]
       have e1 := setRow_heap y0 (W.heap.size + 1) _ #[.int .i64 tk_, .string tt, .int .u16 tv, .int .i64 x, .int .i64 y] _ _ d1
       have hBe := D.row_below hB0 (W.heap.size + 1) (by omega) #[.int .i64 tk_, .string tt, .int .u16 tv, .int .i64 x, .int .i64 y]
       clear d1 hB0
       generalize y0.setRow (W.heap.size + 1) #[.int .i64 tk_, .string tt, .int .u16 tv, .int .i64 x, .int .i64 y] = y1 at *
       refine D.xH 15 (v := ?_) rfl (by kernel_rfl) (fun c a w h => h) (by rfl) ?_ hHeld ?_
       rotate_left
       ·(intro w hSw; (try dsimp only at hSw); go_simp; try with_reducible rfl)
       simp only [D.pts]
       refine wpAnyH_done (by kernel_rfl) ?_ _
       have HZ := hid (And.intro e1 hBe)
       clear e1 hBe hHeld
       go_wp2
       refine bodyPost_ret (v := .tuple #[.agg #[.int .i64 tk_, .string tt, .int .u16 tv, .int .i64 x, .int .i64 y], .bool true]) (res_shown rfl rfl HZ.out.1) rfl ?_
       rw [HTQ.out]
       refine ⟨⟨true, rfl, ?_⟩, HZ.out.2⟩
       exact HNB.out true fun _ h => hk2 h.1
     ·have hw2' : isW t2.t [98, 97, 110, 107] = false := by simpa using hw2
      have q2 := D.isW_no hw2'
      go_wp2_with fail
      go_quiet (fail)
      go_wp2_with fail
      have HBW := hid (HB1.out.1.trans ((HX.out.1.trans (HB.out.mono HX.out.1.size)).mono HB1.out.1.size))
      by_cases hk2 : tk_ = 2
      ·subst hk2
       have b9 : ((2 : Int) != 2) = false := rfl
       have hS0 : (wr.drewN nq).drew.cell? ⟨b1, o1 + k * 5, none⟩ = some (.int .i64 2) /\ (wr.drewN nq).drew.cell? ⟨b1, o1 + k * 5 + 1, none⟩ = some (.string tt) /\ (wr.drewN nq).drew.cell? ⟨b1, o1 + k * 5 + 2, none⟩ = some (.int .u16 tv) /\ (wr.drewN nq).drew.cell? ⟨b1, o1 + k * 5 + 3, none⟩ = some (.int .i64 x) /\ (wr.drewN nq).drew.cell? ⟨b1, o1 + k * 5 + 4, none⟩ = some (.int .i64 y) := ⟨a0, a1, a2, a3, a4⟩
       have hB0 : Below W.heap.size W (wr.drewN nq).drew := HBW.out.trans (Below.mono ⟨rfl, rfl, rfl, Nat.le_refl _, fun _ _ => rfl⟩ HBW.out.size)
       have d1 : (wr.drewN nq).drew.heap[W.heap.size + 1]? = some (.cells #[.int .i64 0, .string ⟨#[]⟩, .int .u16 0, .int .i64 0, .int .i64 0] 53 (0, 0)) := hu1
       clear a0 a1 a2 a3 a4 hu1 x0 x1
       refine wp_region_held_drew (S := fun wz : World => wz.cell? ⟨b1, o1 + k * 5, none⟩ = some (.int .i64 2) /\ wz.cell? ⟨b1, o1 + k * 5 + 1, none⟩ = some (.string tt) /\ wz.cell? ⟨b1, o1 + k * 5 + 2, none⟩ = some (.int .u16 tv) /\ wz.cell? ⟨b1, o1 + k * 5 + 3, none⟩ = some (.int .i64 x) /\ wz.cell? ⟨b1, o1 + k * 5 + 4, none⟩ = some (.int .i64 y)) (by kernel_rfl) hS0 (fun hHeld => ?_)
       clear hS0
       generalize (wr.drewN nq).drew = y0 at *
       refine D.zH (is := [0, 1, 2]) ?_
       iterate 3
        refine D.yH (v := ?_) rfl (by kernel_rfl) (fun c a w h => h) (by rfl) ?_ hHeld ?_
        rotate_left
        ·(intro w hSw; (try dsimp only at hSw); go_simp; try with_reducible rfl)
        simp only [D.pts]
       refine D.eH ?_
       refine D.xH 3 (v := ?_) rfl (by kernel_rfl) (fun c a w h => h) (by rfl) ?_ hHeld ?_
       rotate_left
       ·(intro w hSw; (try dsimp only at hSw); obtain ⟨a0, a1, a2, a3, a4⟩ := hSw; go_simp; try with_reducible rfl)
       simp only [D.pts]
       refine D.zH (is := [4, 5, 6, 7]) ?_
       iterate 4
        refine D.yH (v := ?_) rfl (by kernel_rfl) (fun c a w h => h) (by rfl) ?_ hHeld ?_
        rotate_left
        ·(intro w hSw; (try dsimp only at hSw); go_simp; try with_reducible rfl)
        simp only [D.pts]
       refine D.eH ?_
       refine D.xH 8 (v := ?_) rfl (by kernel_rfl) (fun c a w h => h) (by rfl) ?_ hHeld ?_
       rotate_left
       ·(intro w hSw; (try dsimp only at hSw); obtain ⟨a0, a1, a2, a3, a4⟩ := hSw; go_simp; try with_reducible rfl)
       simp only [D.pts]
       refine D.zH (is := [9, 10, 11, 12, 13]) ?_
       iterate 5
        refine D.yH (v := ?_) rfl (by kernel_rfl) (fun c a w h => h) (by rfl) ?_ hHeld ?_
        rotate_left
        ·(intro w hSw; (try dsimp only at hSw); go_simp; try with_reducible rfl)
        simp only [D.pts]
       refine D.eH ?_
       refine wpAnyH_ready (rs := [14]) (by kernel_rfl) (by simp) ?_
       refine AllReadyH.cons rfl (fun K hK => ?_) AllReadyH.nil
       rw [if_pos (by rfl)]
       refine wp_store_row 53 _ _ rfl (W.heap.size + 1) _ rfl rfl 53 _ d1 (by exact D.sizeTK) (by rfl) (by simp [Value.oneCell']) ?_
       refine hK.out _ _ ?_ (fun hHeld => ?_)
       ·have ho := fun j => cell_other y0 (W.heap.size + 1) b1 (o1 + k * 5 + j) #[.int .i64 2, .string tt, .int .u16 tv, .int .i64 x, .int .i64 y] HLO.out
        exact ⟨(ho 0).trans hHeld.1, (ho 1).trans hHeld.2.1, (ho 2).trans hHeld.2.2.1, (ho 3).trans hHeld.2.2.2.1, (ho 4).trans hHeld.2.2.2.2⟩
       clear hK K
       try simp only [D.pts]
       have e1 := setRow_heap y0 (W.heap.size + 1) _ #[.int .i64 2, .string tt, .int .u16 tv, .int .i64 x, .int .i64 y] _ _ d1
       have hBe := D.row_below hB0 (W.heap.size + 1) (by omega) #[.int .i64 2, .string tt, .int .u16 tv, .int .i64 x, .int .i64 y]
       clear d1 hB0
       generalize y0.setRow (W.heap.size + 1) #[.int .i64 2, .string tt, .int .u16 tv, .int .i64 x, .int .i64 y] = y1 at *
       refine D.xH 15 (v := ?_) rfl (by kernel_rfl) (fun c a w h => h) (by rfl) ?_ hHeld ?_
       rotate_left
       ·(intro w hSw; (try dsimp only at hSw); go_simp; try with_reducible rfl)
       simp only [D.pts]
       refine wpAnyH_done (by kernel_rfl) ?_ _
       have HZ := hid (And.intro e1 hBe)
       clear e1 hBe hHeld
       go_wp2
       refine bodyPost_ret (v := .tuple #[.agg #[.int .i64 2, .string tt, .int .u16 tv, .int .i64 x, .int .i64 y], .bool true]) (res_shown rfl rfl HZ.out.1) rfl ?_
       rw [HTQ.out]
       refine ⟨⟨true, rfl, ?_⟩, HZ.out.2⟩
       exact fun he ⟨_, h2⟩ => HNB.out true (fun _ h => by obtain ⟨t3, h1, h2⟩ := h.2; rw [HN2.out] at h1; cases h1; exact h2.elim (fun z => by rw [hw1'] at z; cases z) (fun z => by rw [hw2'] at z; cases z)) he ⟨trivial, h2⟩
      ·have b9 : (tk_ != 2) = true := by simpa using hk2
       have hS0 : (wr.drewN nq).drew.cell? ⟨b1, o1 + k * 5, none⟩ = some (.int .i64 tk_) /\ (wr.drewN nq).drew.cell? ⟨b1, o1 + k * 5 + 1, none⟩ = some (.string tt) /\ (wr.drewN nq).drew.cell? ⟨b1, o1 + k * 5 + 2, none⟩ = some (.int .u16 tv) /\ (wr.drewN nq).drew.cell? ⟨b1, o1 + k * 5 + 3, none⟩ = some (.int .i64 x) /\ (wr.drewN nq).drew.cell? ⟨b1, o1 + k * 5 + 4, none⟩ = some (.int .i64 y) := ⟨a0, a1, a2, a3, a4⟩
       have hB0 : Below W.heap.size W (wr.drewN nq).drew := HBW.out.trans (Below.mono ⟨rfl, rfl, rfl, Nat.le_refl _, fun _ _ => rfl⟩ HBW.out.size)
       have d1 : (wr.drewN nq).drew.heap[W.heap.size + 1]? = some (.cells #[.int .i64 0, .string ⟨#[]⟩, .int .u16 0, .int .i64 0, .int .i64 0] 53 (0, 0)) := hu1
       clear a0 a1 a2 a3 a4 hu1 x0 x1
       refine wp_region_held_drew (S := fun wz : World => wz.cell? ⟨b1, o1 + k * 5, none⟩ = some (.int .i64 tk_) /\ wz.cell? ⟨b1, o1 + k * 5 + 1, none⟩ = some (.string tt) /\ wz.cell? ⟨b1, o1 + k * 5 + 2, none⟩ = some (.int .u16 tv) /\ wz.cell? ⟨b1, o1 + k * 5 + 3, none⟩ = some (.int .i64 x) /\ wz.cell? ⟨b1, o1 + k * 5 + 4, none⟩ = some (.int .i64 y)) (by kernel_rfl) hS0 (fun hHeld => ?_)
       clear hS0
       generalize (wr.drewN nq).drew = y0 at *
       refine D.zH (is := [0, 1, 2]) ?_
       iterate 3
        refine D.yH (v := ?_) rfl (by kernel_rfl) (fun c a w h => h) (by rfl) ?_ hHeld ?_
        rotate_left
        ·(intro w hSw; (try dsimp only at hSw); go_simp; try with_reducible rfl)
        simp only [D.pts]
       refine D.eH ?_
       refine D.xH 3 (v := ?_) rfl (by kernel_rfl) (fun c a w h => h) (by rfl) ?_ hHeld ?_
       rotate_left
       ·(intro w hSw; (try dsimp only at hSw); obtain ⟨a0, a1, a2, a3, a4⟩ := hSw; go_simp; try with_reducible rfl)
       simp only [D.pts]
       refine D.zH (is := [4, 5, 6, 7]) ?_
       iterate 4
        refine D.yH (v := ?_) rfl (by kernel_rfl) (fun c a w h => h) (by rfl) ?_ hHeld ?_
        rotate_left
        ·(intro w hSw; (try dsimp only at hSw); go_simp; try with_reducible rfl)
        simp only [D.pts]
       refine D.eH ?_
       refine D.xH 8 (v := ?_) rfl (by kernel_rfl) (fun c a w h => h) (by rfl) ?_ hHeld ?_
       rotate_left
       ·(intro w hSw; (try dsimp only at hSw); obtain ⟨a0, a1, a2, a3, a4⟩ := hSw; go_simp; try with_reducible rfl)
       simp only [D.pts]
       refine D.zH (is := [9, 10]) ?_
       iterate 2
        refine D.yH (v := ?_) rfl (by kernel_rfl) (fun c a w h => h) (by rfl) ?_ hHeld ?_
        rotate_left
        ·(intro w hSw; (try dsimp only at hSw); go_simp; try with_reducible rfl)
        simp only [D.pts]
       refine D.eH ?_
       refine wpAnyH_take (i := 11) (v := undef) rfl (by kernel_rfl) (by kernel_rfl) (by kernel_rfl) (fun c a w h => h) (Or.inr ⟨by rfl, rfl⟩) hHeld ?_
       simp only [D.pts]
       refine wpAnyH_take (i := 12) (v := undef) rfl (by kernel_rfl) (by kernel_rfl) (by kernel_rfl) (fun c a w h => h) (Or.inr ⟨by rfl, rfl⟩) hHeld ?_
       simp only [D.pts]
       refine D.xH 13 (v := ?_) rfl (by kernel_rfl) (fun c a w h => h) (by rfl) ?_ hHeld ?_
       rotate_left
       ·(intro w hSw; (try dsimp only at hSw); go_simp; try with_reducible rfl)
       simp only [D.pts]
       refine wpAnyH_ready (rs := [14]) (by kernel_rfl) (by simp) ?_
       refine AllReadyH.cons rfl (fun K hK => ?_) AllReadyH.nil
       rw [if_pos (by rfl)]
       refine wp_store_row 53 _ _ rfl (W.heap.size + 1) _ rfl rfl 53 _ d1 (by exact D.sizeTK) (by rfl) (by simp [Value.oneCell']) ?_
       refine hK.out _ _ ?_ (fun hHeld => ?_)
       ·have ho := fun j => cell_other y0 (W.heap.size + 1) b1 (o1 + k * 5 + j) #[.int .i64 tk_, .string tt, .int .u16 tv, .int .i64 x, .int .i64 y] HLO.out
        exact ⟨(ho 0).trans hHeld.1, (ho 1).trans hHeld.2.1, (ho 2).trans hHeld.2.2.1, (ho 3).trans hHeld.2.2.2.1, (ho 4).trans hHeld.2.2.2.2⟩
       clear hK K
       try simp only [D.pts]
       have e1 := setRow_heap y0 (W.heap.size + 1) _ #[.int .i64 tk_, .string tt, .int .u16 tv, .int .i64 x, .int .i64 y] _ _ d1
       have hBe := D.row_below hB0 (W.heap.size + 1) (by omega) #[.int .i64 tk_, .string tt, .int .u16 tv, .int .i64 x, .int .i64 y]
       clear d1 hB0
       generalize y0.setRow (W.heap.size + 1) #[.int .i64 tk_, .string tt, .int .u16 tv, .int .i64 x, .int .i64 y] = y1 at *
       refine D.xH 15 (v := ?_) rfl (by kernel_rfl) (fun c a w h => h) (by rfl) ?_ hHeld ?_
       rotate_left
       ·(intro w hSw; (try dsimp only at hSw); go_simp; try with_reducible rfl)
       simp only [D.pts]
       refine wpAnyH_done (by kernel_rfl) ?_ _
       have HZ := hid (And.intro e1 hBe)
       clear e1 hBe hHeld
       go_wp2
       refine bodyPost_ret (v := .tuple #[.agg #[.int .i64 tk_, .string tt, .int .u16 tv, .int .i64 x, .int .i64 y], .bool true]) (res_shown rfl rfl HZ.out.1) rfl ?_
       rw [HTQ.out]
       refine ⟨⟨true, rfl, ?_⟩, HZ.out.2⟩
       exact HNB.out true fun _ h => hk2 h.1
   ·have hlk := HLN.out
    have i2 : ¬ (k : Int) + 1 < (ts.length : Int) := by omega
    have d2 : decide ((k : Int) + 1 < (ts.length : Int)) = false := decide_eq_false i2
    go_wp2_with fail
    go_quiet (fail)
    go_wp2_with fail
    have HBW := hid (HB1.out.1.trans ((HX.out.1.trans (HB.out.mono HX.out.1.size)).mono HB1.out.1.size))
    by_cases hk2 : tk_ = 2
    ·subst hk2
     have b9 : ((2 : Int) != 2) = false := rfl
     have hS0 : (wr.drewN nq).drew.cell? ⟨b1, o1 + k * 5, none⟩ = some (.int .i64 2) /\ (wr.drewN nq).drew.cell? ⟨b1, o1 + k * 5 + 1, none⟩ = some (.string tt) /\ (wr.drewN nq).drew.cell? ⟨b1, o1 + k * 5 + 2, none⟩ = some (.int .u16 tv) /\ (wr.drewN nq).drew.cell? ⟨b1, o1 + k * 5 + 3, none⟩ = some (.int .i64 x) /\ (wr.drewN nq).drew.cell? ⟨b1, o1 + k * 5 + 4, none⟩ = some (.int .i64 y) := ⟨a0, a1, a2, a3, a4⟩
     have hB0 : Below W.heap.size W (wr.drewN nq).drew := HBW.out.trans (Below.mono ⟨rfl, rfl, rfl, Nat.le_refl _, fun _ _ => rfl⟩ HBW.out.size)
     have d1 : (wr.drewN nq).drew.heap[W.heap.size + 1]? = some (.cells #[.int .i64 0, .string ⟨#[]⟩, .int .u16 0, .int .i64 0, .int .i64 0] 53 (0, 0)) := hu1
     clear a0 a1 a2 a3 a4 hu1 x0 x1
     refine wp_region_held_drew (S := fun wz : World => wz.cell? ⟨b1, o1 + k * 5, none⟩ = some (.int .i64 2) /\ wz.cell? ⟨b1, o1 + k * 5 + 1, none⟩ = some (.string tt) /\ wz.cell? ⟨b1, o1 + k * 5 + 2, none⟩ = some (.int .u16 tv) /\ wz.cell? ⟨b1, o1 + k * 5 + 3, none⟩ = some (.int .i64 x) /\ wz.cell? ⟨b1, o1 + k * 5 + 4, none⟩ = some (.int .i64 y)) (by kernel_rfl) hS0 (fun hHeld => ?_)
     clear hS0
     generalize (wr.drewN nq).drew = y0 at *
     refine D.zH (is := [0, 1, 2]) ?_
     iterate 3
      refine D.yH (v := ?_) rfl (by kernel_rfl) (fun c a w h => h) (by rfl) ?_ hHeld ?_
      rotate_left
      ·(intro w hSw; (try dsimp only at hSw); go_simp; try with_reducible rfl)
      simp only [D.pts]
     refine D.eH ?_
     refine D.xH 3 (v := ?_) rfl (by kernel_rfl) (fun c a w h => h) (by rfl) ?_ hHeld ?_
     rotate_left
     ·(intro w hSw; (try dsimp only at hSw); obtain ⟨a0, a1, a2, a3, a4⟩ := hSw; go_simp; try with_reducible rfl)
     simp only [D.pts]
     refine D.zH (is := [4, 5, 6, 7]) ?_
     iterate 4
      refine D.yH (v := ?_) rfl (by kernel_rfl) (fun c a w h => h) (by rfl) ?_ hHeld ?_
      rotate_left
      ·(intro w hSw; (try dsimp only at hSw); go_simp; try with_reducible rfl)
      simp only [D.pts]
     refine D.eH ?_
     refine D.xH 8 (v := ?_) rfl (by kernel_rfl) (fun c a w h => h) (by rfl) ?_ hHeld ?_
     rotate_left
     ·(intro w hSw; (try dsimp only at hSw); obtain ⟨a0, a1, a2, a3, a4⟩ := hSw; go_simp; try with_reducible rfl)
     simp only [D.pts]
     refine D.zH (is := [9, 10, 11, 12, 13]) ?_
     iterate 5
      refine D.yH (v := ?_) rfl (by kernel_rfl) (fun c a w h => h) (by rfl) ?_ hHeld ?_
      rotate_left
      ·(intro w hSw; (try dsimp only at hSw); go_simp; try with_reducible rfl)
      simp only [D.pts]
     refine D.eH ?_
     refine wpAnyH_ready (rs := [14]) (by kernel_rfl) (by simp) ?_
     refine AllReadyH.cons rfl (fun K hK => ?_) AllReadyH.nil
     rw [if_pos (by rfl)]
     refine wp_store_row 53 _ _ rfl (W.heap.size + 1) _ rfl rfl 53 _ d1 (by exact D.sizeTK) (by rfl) (by simp [Value.oneCell']) ?_
     refine hK.out _ _ ?_ (fun hHeld => ?_)
     ·have ho := fun j => cell_other y0 (W.heap.size + 1) b1 (o1 + k * 5 + j) #[.int .i64 2, .string tt, .int .u16 tv, .int .i64 x, .int .i64 y] HLO.out
      exact ⟨(ho 0).trans hHeld.1, (ho 1).trans hHeld.2.1, (ho 2).trans hHeld.2.2.1, (ho 3).trans hHeld.2.2.2.1, (ho 4).trans hHeld.2.2.2.2⟩
     clear hK K
     try simp only [D.pts]
     have e1 := setRow_heap y0 (W.heap.size + 1) _ #[.int .i64 2, .string tt, .int .u16 tv, .int .i64 x, .int .i64 y] _ _ d1
     have hBe := D.row_below hB0 (W.heap.size + 1) (by omega) #[.int .i64 2, .string tt, .int .u16 tv, .int .i64 x, .int .i64 y]
     clear d1 hB0
     generalize y0.setRow (W.heap.size + 1) #[.int .i64 2, .string tt, .int .u16 tv, .int .i64 x, .int .i64 y] = y1 at *
     refine D.xH 15 (v := ?_) rfl (by kernel_rfl) (fun c a w h => h) (by rfl) ?_ hHeld ?_
     rotate_left
     ·(intro w hSw; (try dsimp only at hSw); go_simp; try with_reducible rfl)
     simp only [D.pts]
     refine wpAnyH_done (by kernel_rfl) ?_ _
     have HZ := hid (And.intro e1 hBe)
     clear e1 hBe hHeld
     go_wp2
     refine bodyPost_ret (v := .tuple #[.agg #[.int .i64 2, .string tt, .int .u16 tv, .int .i64 x, .int .i64 y], .bool true]) (res_shown rfl rfl HZ.out.1) rfl ?_
     rw [HTQ.out]
     refine ⟨⟨true, rfl, ?_⟩, HZ.out.2⟩
     exact fun he ⟨_, h2⟩ => HNB.out true (fun _ h => by obtain ⟨t3, h1, h2⟩ := h.2; rw [List.getElem?_eq_none (by omega)] at h1; cases h1) he ⟨trivial, h2⟩
    ·have b9 : (tk_ != 2) = true := by simpa using hk2
     have hS0 : (wr.drewN nq).drew.cell? ⟨b1, o1 + k * 5, none⟩ = some (.int .i64 tk_) /\ (wr.drewN nq).drew.cell? ⟨b1, o1 + k * 5 + 1, none⟩ = some (.string tt) /\ (wr.drewN nq).drew.cell? ⟨b1, o1 + k * 5 + 2, none⟩ = some (.int .u16 tv) /\ (wr.drewN nq).drew.cell? ⟨b1, o1 + k * 5 + 3, none⟩ = some (.int .i64 x) /\ (wr.drewN nq).drew.cell? ⟨b1, o1 + k * 5 + 4, none⟩ = some (.int .i64 y) := ⟨a0, a1, a2, a3, a4⟩
     have hB0 : Below W.heap.size W (wr.drewN nq).drew := HBW.out.trans (Below.mono ⟨rfl, rfl, rfl, Nat.le_refl _, fun _ _ => rfl⟩ HBW.out.size)
     have d1 : (wr.drewN nq).drew.heap[W.heap.size + 1]? = some (.cells #[.int .i64 0, .string ⟨#[]⟩, .int .u16 0, .int .i64 0, .int .i64 0] 53 (0, 0)) := hu1
     clear a0 a1 a2 a3 a4 hu1 x0 x1
     refine wp_region_held_drew (S := fun wz : World => wz.cell? ⟨b1, o1 + k * 5, none⟩ = some (.int .i64 tk_) /\ wz.cell? ⟨b1, o1 + k * 5 + 1, none⟩ = some (.string tt) /\ wz.cell? ⟨b1, o1 + k * 5 + 2, none⟩ = some (.int .u16 tv) /\ wz.cell? ⟨b1, o1 + k * 5 + 3, none⟩ = some (.int .i64 x) /\ wz.cell? ⟨b1, o1 + k * 5 + 4, none⟩ = some (.int .i64 y)) (by kernel_rfl) hS0 (fun hHeld => ?_)
     clear hS0
     generalize (wr.drewN nq).drew = y0 at *
     refine D.zH (is := [0, 1, 2]) ?_
     iterate 3
      refine D.yH (v := ?_) rfl (by kernel_rfl) (fun c a w h => h) (by rfl) ?_ hHeld ?_
      rotate_left
      ·(intro w hSw; (try dsimp only at hSw); go_simp; try with_reducible rfl)
      simp only [D.pts]
     refine D.eH ?_
     refine D.xH 3 (v := ?_) rfl (by kernel_rfl) (fun c a w h => h) (by rfl) ?_ hHeld ?_
     rotate_left
     ·(intro w hSw; (try dsimp only at hSw); obtain ⟨a0, a1, a2, a3, a4⟩ := hSw; go_simp; try with_reducible rfl)
     simp only [D.pts]
     refine D.zH (is := [4, 5, 6, 7]) ?_
     iterate 4
      refine D.yH (v := ?_) rfl (by kernel_rfl) (fun c a w h => h) (by rfl) ?_ hHeld ?_
      rotate_left
      ·(intro w hSw; (try dsimp only at hSw); go_simp; try with_reducible rfl)
      simp only [D.pts]
     refine D.eH ?_
     refine D.xH 8 (v := ?_) rfl (by kernel_rfl) (fun c a w h => h) (by rfl) ?_ hHeld ?_
     rotate_left
     ·(intro w hSw; (try dsimp only at hSw); obtain ⟨a0, a1, a2, a3, a4⟩ := hSw; go_simp; try with_reducible rfl)
     simp only [D.pts]
     refine D.zH (is := [9, 10]) ?_
     iterate 2
      refine D.yH (v := ?_) rfl (by kernel_rfl) (fun c a w h => h) (by rfl) ?_ hHeld ?_
      rotate_left
      ·(intro w hSw; (try dsimp only at hSw); go_simp; try with_reducible rfl)
      simp only [D.pts]
     refine D.eH ?_
     refine wpAnyH_take (i := 11) (v := undef) rfl (by kernel_rfl) (by kernel_rfl) (by kernel_rfl) (fun c a w h => h) (Or.inr ⟨by rfl, rfl⟩) hHeld ?_
     simp only [D.pts]
     refine wpAnyH_take (i := 12) (v := undef) rfl (by kernel_rfl) (by kernel_rfl) (by kernel_rfl) (fun c a w h => h) (Or.inr ⟨by rfl, rfl⟩) hHeld ?_
     simp only [D.pts]
     refine D.xH 13 (v := ?_) rfl (by kernel_rfl) (fun c a w h => h) (by rfl) ?_ hHeld ?_
     rotate_left
     ·(intro w hSw; (try dsimp only at hSw); go_simp; try with_reducible rfl)
     simp only [D.pts]
     refine wpAnyH_ready (rs := [14]) (by kernel_rfl) (by simp) ?_
     refine AllReadyH.cons rfl (fun K hK => ?_) AllReadyH.nil
     rw [if_pos (by rfl)]
     refine wp_store_row 53 _ _ rfl (W.heap.size + 1) _ rfl rfl 53 _ d1 (by exact D.sizeTK) (by rfl) (by simp [Value.oneCell']) ?_
     refine hK.out _ _ ?_ (fun hHeld => ?_)
     ·have ho := fun j => cell_other y0 (W.heap.size + 1) b1 (o1 + k * 5 + j) #[.int .i64 tk_, .string tt, .int .u16 tv, .int .i64 x, .int .i64 y] HLO.out
      exact ⟨(ho 0).trans hHeld.1, (ho 1).trans hHeld.2.1, (ho 2).trans hHeld.2.2.1, (ho 3).trans hHeld.2.2.2.1, (ho 4).trans hHeld.2.2.2.2⟩
     clear hK K
     try simp only [D.pts]
     have e1 := setRow_heap y0 (W.heap.size + 1) _ #[.int .i64 tk_, .string tt, .int .u16 tv, .int .i64 x, .int .i64 y] _ _ d1
     have hBe := D.row_below hB0 (W.heap.size + 1) (by omega) #[.int .i64 tk_, .string tt, .int .u16 tv, .int .i64 x, .int .i64 y]
     clear d1 hB0
     generalize y0.setRow (W.heap.size + 1) #[.int .i64 tk_, .string tt, .int .u16 tv, .int .i64 x, .int .i64 y] = y1 at *
     refine D.xH 15 (v := ?_) rfl (by kernel_rfl) (fun c a w h => h) (by rfl) ?_ hHeld ?_
     rotate_left
     ·(intro w hSw; (try dsimp only at hSw); go_simp; try with_reducible rfl)
     simp only [D.pts]
     refine wpAnyH_done (by kernel_rfl) ?_ _
     have HZ := hid (And.intro e1 hBe)
     clear e1 hBe hHeld
     go_wp2
     refine bodyPost_ret (v := .tuple #[.agg #[.int .i64 tk_, .string tt, .int .u16 tv, .int .i64 x, .int .i64 y], .bool true]) (res_shown rfl rfl HZ.out.1) rfl ?_
     rw [HTQ.out]
     refine ⟨⟨true, rfl, ?_⟩, HZ.out.2⟩
     exact HNB.out true fun _ h => hk2 h.1
  ·have hne : ¬ ts[k].p = p := fun e => hkk (HPL.out k ts[k] (List.getElem?_eq_getElem hkl) e)
   generalize ts[k] = t at *
   obtain ⟨tk_, tt, tv, tpl⟩ := t
   obtain ⟨x, y⟩ := tpl
   obtain ⟨u, v⟩ := p
   simp only at *
   have hff : (x == u && y == v) = false := by
    cases h1 : (x == u && y == v) with
    | false => rfl
    | true =>
     simp only [Bool.and_eq_true, beq_iff_eq] at h1
     exact absurd (by rw [h1.1, h1.2]) hne
   have hee := fun w => eql_ps w x y u v
   rw [hff] at hee
   have hlk := HLN.out
   clear hff hne
   go_wp2_with fail
   go_quiet (fail)
   go_wp2_with fail
   go_roundw
   case rel => exact ⟨k + 1, by simp, by omega, HB.out.trans (Below.mono ⟨rfl, rfl, rfl, Nat.le_refl _, fun _ _ => rfl⟩ HB.out.size)⟩
   case measure => simp only [intOf]; omega
open Go.Proofs.YtdnklgceghllaaaGreatDoor.D (tkc isW Er RdO)
set_option linter.unusedVariables false
set_option linter.unusedSimpArgs false
set_option maxHeartbeats 4000000
set_option maxRecDepth 100000
theorem ext_size (s : ByteArray) (a b : Nat) (h : b <= s.size) : (s.extract a b).size = b - a := by rw [ByteArray.size_extract]; omega
theorem cut_text (s v : ByteArray) (a b : Nat) (h1 : a <= b) (h2 : b <= s.size) : (s.extract 0 a ++ s.extract a b ++ ⟨#[32]⟩ ++ v).data.toList = s.data.toList.take b ++ (32 :: v.data.toList) /\ (s.extract 0 a ++ s.extract a b ++ ⟨#[32]⟩ ++ v).size = b + 1 + v.size := by
  have hl : s.data.toList.length = s.size := by rw [Array.length_toList]; rfl
  constructor
  · have e : s.data.toList.take b = s.data.toList.take a ++ (s.data.toList.drop a).take (b - a) := by
      rw [<- List.take_add, show a + (b - a) = b by omega]
    have e0 : (s.extract 0 a).data.toList = s.data.toList.take a := by simp [List.extract_eq_take_drop]
    have e1 : (s.extract a b).data.toList = (s.data.toList.drop a).take (b - a) := by simp [List.extract_eq_take_drop]
    rw [e]
    simp only [ByteArray.data_append, Array.toList_append, e0, e1, List.append_assoc]
    rfl
  · simp only [ByteArray.size_append, ext_size s 0 a (by omega), ext_size s a b h2]
    show a - 0 + (b - a) + 1 + v.size = _
    omega
theorem big_parse (U : ByteArray) (h : (ans U).2.2 = 0) : U.size <= 65536 := by
  unfold ans at h
  by_cases c : 65536 < U.size
  · rw [if_pos c] at h; simp at h
  · omega
theorem first_walk (s v : ByteArray) (hs : s.size <= 140737488355328) (hv : v.size <= 140737488355328) (W : World) (hT : P10 W) : Calls Tryz.prog 7 #[.string s, .string v] W fun e w' => e = .returned (.bool true) /\ Below W.heap.size W w' := by
  have hc0 := fixed_any W hT
  have HP := hid (fun w => parse_any s hs w)
  obtain ⟨RES, hRES⟩ : ∃ R, pans s = R := ⟨_, rfl⟩
  rw [hRES] at HP
  have HR := hid hRES
  have HV := hid hv
  have HSZ := hid hs
  clear hT hs hv hRES
  go_enter Tryz.func7, Tryz.ntmps7
  go_wp2_with fail
  refine hc0.mono ?_
  rintro e w0 ⟨rfl, hb0⟩
  have HB0 := hid hb0
  clear hc0 hb0
  go_wp2_with fail
  refine (HP.out w0).mono ?_
  rintro e w1 hO
  cases RES with
  | ok x =>
    obtain ⟨ds, bs⟩ := x
    obtain ⟨dv, xv, rfl, hD, hX, hb1⟩ := hO
    obtain ⟨p1, c1, e1, _⟩ := id hD
    obtain ⟨p2, c2, e2, _⟩ := id hX
    subst e1 e2
    have hB1 := HB0.out.trans (hb1.mono HB0.out.size)
    obtain ⟨W2, hW2, hb2, u0, u1⟩ := two_box w1 (.slice p1 ds.length c1) (.slice p2 bs.length c2) (.int .i64 0) (.int .i64 0)
    have HW2 := hid hW2
    have HB2 := hid (hB1.trans (hb2.mono hB1.size))
    clear hb1 hB1 hb2 u0 u1 hW2 hD hX HR HB0 HP
    go_upto_region 4 with fail
    rw [HW2.out]
    go_wp2
    go_ret
    exact ⟨rfl, HB2.out⟩
  | error er =>
    obtain ⟨rfl, hb1⟩ := hO
    obtain ⟨⟨pl, pc⟩, cd⟩ := er
    simp only
    have hB1 := HB0.out.trans (hb1.mono HB0.out.size)
    obtain ⟨W2, hW2, hb2, u0, u1⟩ := two_box w1 (.slice none 0 0) (.slice none 0 0) (.int .i64 pl) (.int .i64 pc)
    have HW2 := hid hW2
    have HB2 := hid (hB1.trans (hb2.mono hB1.size))
    have HU := hid (And.intro u1 (hb1.size))
    clear hb1 hB1 hb2 u0 u1 hW2 HB0 HP
    go_upto_region 4 with fail
    rw [HW2.out]
    by_cases g1 : cd < 100
    · have d1 : decide (cd < 100) = true := decide_eq_true g1
      clear HR HU
      go_wp2
      go_ret
      exact ⟨rfl, HB2.out⟩
    have d1 : decide (cd < 100) = false := decide_eq_false g1
    by_cases g2 : 109 < cd
    · have d2 : decide (109 < cd) = true := decide_eq_true g2
      clear HR HU
      go_wp2
      go_ret
      exact ⟨rfl, HB2.out⟩
    have d2 : decide (109 < cd) = false := decide_eq_false g2
    by_cases g3 : cd = 105
    · subst g3
      clear HR HU g1 g2 d1 d2
      go_wp2
      go_ret
      exact ⟨rfl, HB2.out⟩
    have d3 : (cd == 105) = false := by simpa using g3
    by_cases g4 : cd = 107
    · subst g4
      clear HR HU g1 g2 d1 d2 g3 d3
      go_wp2
      go_ret
      exact ⟨rfl, HB2.out⟩
    have d4 : (cd == 107) = false := by simpa using g4
    obtain ⟨hz, k, q, hq, hp, hlt, hle, halt⟩ := first_pure s ((pl, pc), cd) HR.out (by simp only; omega) g3 g4
    have hlen : s.data.toList.length = s.size := by rw [Array.length_toList]; rfl
    have hsh := fun w => shown_any s HSZ.out hz k q hq (pl, pc) hp.symm w
    have hof := fun w => offset_any s HSZ.out q.1 (by omega) (pl, pc) hp.symm w
    have HOF := hid hof
    have HAL := hid halt
    obtain ⟨x0, x1⟩ := box2 HU.out.1 (Below.refl _ W2)
    obtain ⟨t, ht⟩ : ∃ t, tk s q = t := ⟨_, rfl⟩
    have htt : t.t = s.extract q.1 q.2 := by rw [<- ht]; rfl
    have htz : t.t.size = q.2 - q.1 := by rw [htt, ext_size _ _ _ (by omega)]
    rw [ht] at hsh
    have HQ := hid (And.intro hlt (And.intro (show q.2 <= s.size by omega) (And.intro htt (And.intro htz ht))))
    have HZS := hid (big_parse s hz)
    have hc5 := hsh W2
    clear hsh hof halt hz hq hp hlt hle hlen ht htt htz HR
    go_wp2_with fail
    refine hc5.mono ?_
    rintro e w3 hS3
    obtain ⟨⟨okb, rfl, hok⟩, hb3⟩ := hS3
    have HOK := hid hok
    clear hc5 hok x0 x1
    obtain ⟨tk_, tt, tv, tpl⟩ := t
    obtain ⟨tx, ty⟩ := tpl
    unfold tkc
    simp only
    obtain ⟨W4, hW4⟩ : ∃ W4, w3.alloc (.cells #[.int .i64 tk_, .string tt, .int .u16 tv, .int .i64 tx, .int .i64 ty] 53) = W4 := ⟨_, rfl⟩
    have hb4 : Below w3.heap.size w3 W4 := by rw [<- hW4]; exact (Below.refl _ _).alloc (Nat.le_refl _) _
    have v4 : W4.heap[w3.heap.size]? = some (.cells [.int .i64 tk_, .string tt, .int .u16 tv, .int .i64 tx, .int .i64 ty].toArray 53 (0, 0)) := by rw [<- hW4]; exact heap_alloc_new w3 _
    have hb24 := hb3.trans (hb4.mono hb3.size)
    obtain ⟨x0, x1⟩ := box2 HU.out.1 hb24
    have x2 := S.cell_of W4 w3.heap.size 1 _ _ _ v4 rfl
    have HX := hid (fun (w : World) (kk : Below W4.heap.size W4 w) => show (w.cell? ⟨w1.heap.size + 1, 0, none⟩ = some (.int .i64 pl) /\ w.cell? ⟨w1.heap.size + 1, 1, none⟩ = some (.int .i64 pc)) /\ Below W.heap.size W w from ⟨box2 HU.out.1 (hb24.trans (kk.mono hb24.size)), HB2.out.trans ((hb24.trans (kk.mono hb24.size)).mono HB2.out.size)⟩)
    have HW4 := hid hW4
    clear hb3 hb4 v4 hb24 hW4 HU
    have hne : (tt.toList == []) = false := by
      have h1 := HQ.out.2.2.2.1
      have h2 := HQ.out.1
      simp only at h1
      rw [ByteArray.toList_eq]
      cases hl : tt.data.toList with
      | nil =>
        have : tt.data.toList.length = tt.size := by rw [Array.length_toList]; rfl
        rw [hl] at this
        simp at this
        omega
      | cons a r => rfl
    go_upto_region 7 with fail
    rw [HW4.out]
    go_upto_region 9 with fail
    have hS0 : (W4.drew.cell? ⟨w1.heap.size + 1, 0, none⟩ = some (.int .i64 pl) /\ W4.drew.cell? ⟨w1.heap.size + 1, 1, none⟩ = some (.int .i64 pc)) /\ W4.drew.cell? ⟨w3.heap.size, 1, none⟩ = some (.string tt) := ⟨⟨x0, x1⟩, x2⟩
    have HB5 := hid (show Below W4.heap.size W4 W4.drew from Below.mono ⟨rfl, rfl, rfl, Nat.le_refl _, fun _ _ => rfl⟩ (Nat.le_refl _))
    have HL3 := hid (show w3.heap.size < W4.heap.size from World.block_lt_of_cell? W4 _ x2)
    have HL1 := hid (show w1.heap.size + 1 < W4.heap.size from World.block_lt_of_cell? W4 _ x0)
    clear x0 x1 x2 hne
    refine wp_region_held_drew (S := fun wz : World => (wz.cell? ⟨w1.heap.size + 1, 0, none⟩ = some (.int .i64 pl) /\ wz.cell? ⟨w1.heap.size + 1, 1, none⟩ = some (.int .i64 pc)) /\ wz.cell? ⟨w3.heap.size, 1, none⟩ = some (.string tt)) (by kernel_rfl) hS0 (fun hHeld => ?_)
    clear hS0
    generalize W4.drew = y0 at *
    refine D.zH (is := [0, 1]) ?_
    iterate 2
     refine D.yH (v := ?_) rfl (by kernel_rfl) (fun c a w h => h) (by rfl) ?_ hHeld ?_
     rotate_left
     · (intro w hSw; (try dsimp only at hSw); go_simp; try with_reducible rfl)
     simp only [D.pts]
    refine D.eH ?_
    refine D.xH 2 (v := ?_) rfl (by kernel_rfl) (fun c a w h => h) (by rfl) ?_ hHeld ?_
    rotate_left
    · (intro w hSw; (try dsimp only at hSw); obtain ⟨⟨x0, x1⟩, x2⟩ := hSw; go_simp; try with_reducible rfl)
    simp only [D.pts]
    refine D.xH 5 (v := ?_) rfl (by kernel_rfl) (fun c a w h => h) (by rfl) ?_ hHeld ?_
    rotate_left
    · (intro w hSw; (try dsimp only at hSw); go_simp; try with_reducible rfl)
    simp only [D.pts]
    refine D.xH 6 (v := ?_) rfl (by kernel_rfl) (fun c a w h => h) (by rfl) ?_ hHeld ?_
    rotate_left
    · (intro w hSw; (try dsimp only at hSw); obtain ⟨⟨x0, x1⟩, x2⟩ := hSw; go_simp; try with_reducible rfl)
    simp only [D.pts]
    refine D.xH 9 (v := ?_) rfl (by kernel_rfl) (fun c a w h => h) (by rfl) ?_ hHeld ?_
    rotate_left
    · (intro w hSw; (try dsimp only at hSw); go_simp; try with_reducible rfl)
    simp only [D.pts]
    refine wpAnyH_ready (rs := [3]) (by kernel_rfl) (by simp) ?_
    refine AllReadyH.cons rfl (fun K hK => ?_) AllReadyH.nil
    go_simp
    refine (HOF.out y0).mono ?_
    rintro e y1 ⟨rfl, kk⟩
    have HB6 := hid (HB5.out.trans (kk.mono HB5.out.size))
    have hH1 : (y1.cell? ⟨w1.heap.size + 1, 0, none⟩ = some (.int .i64 pl) /\ y1.cell? ⟨w1.heap.size + 1, 1, none⟩ = some (.int .i64 pc)) /\ y1.cell? ⟨w3.heap.size, 1, none⟩ = some (.string tt) :=
      ⟨⟨(kk.cell (World.block_lt_of_cell? y0 _ hHeld.1.1)).trans hHeld.1.1, (kk.cell (World.block_lt_of_cell? y0 _ hHeld.1.2)).trans hHeld.1.2⟩, (kk.cell (World.block_lt_of_cell? y0 _ hHeld.2)).trans hHeld.2⟩
    refine hK.out _ _ hH1 (fun hHeld => ?_)
    clear hK K kk hH1 HB5
    try simp only [D.pts]
    have i1 : ((q.1 : Nat) : Int) <= (s.size : Int) := by have := HQ.out.1; have := HQ.out.2.1; omega
    have i2 : q.1 <= s.size := by omega
    have htz := HQ.out.2.2.2.1
    simp only at htz
    have hq2 := HQ.out.2.1
    have hs0 := HSZ.out
    have hv0 := HV.out
    have n1 : ¬ 9223372036854775807 < q.1 + tt.size := by omega
    have n2 : ¬ 9223372036854775807 < q.1 + tt.size + 1 := by omega
    have n3 : ¬ 9223372036854775807 < q.1 + tt.size + 1 + v.size := by omega
    clear htz hq2 hs0 hv0
    refine D.zH (is := [4, 7, 8, 10, 11]) ?_
    iterate 5
     refine D.yH (v := ?_) rfl (by kernel_rfl) (fun c a w h => h) (by rfl) ?_ hHeld ?_
     rotate_left
     · (intro w hSw; (try dsimp only at hSw); go_simp; try with_reducible rfl)
     simp only [D.pts]
    refine D.eH ?_
    refine wpAnyH_done (by kernel_rfl) ?_ _
    clear hHeld i1 i2
    obtain ⟨hct, hcz⟩ := cut_text s v q.1 q.2 (Nat.le_of_lt HQ.out.1) HQ.out.2.1
    have htt := HQ.out.2.2.1
    simp only at htt
    rw [<- htt] at hct hcz
    obtain ⟨U, hU⟩ : ∃ U, s.extract 0 q.1 ++ tt ++ ⟨#[32]⟩ ++ v = U := ⟨_, rfl⟩
    rw [hU] at hct hcz
    try rw [hU]
    have hUz : U.size <= 281474976710656 := by have h1 := HQ.out.2.1; have h2 := HZS.out; have h3 := HV.out; omega
    have hsc := K.scanw_big U hUz y1
    have hpu := fun (h0 : (ans U).2.2 = 0) w => parse_any U (by have := big_parse U h0; omega) w
    have hal : okb = true -> (ans U).2.2 = 0 -> pans U = .error ((pl, pc), cd) := fun h0 h1 => by
      rcases HAL.out with h2 | h2
      · exact h2 U _ hct h1
      · exact absurd (by rw [HQ.out.2.2.2.2] at h2; exact h2) (HOK.out h0)
    have HPU := hid hpu
    have HLL := hid hal
    have HB7 := hid (HX.out y1 HB6.out)
    have HX1 := hid (fun (w : World) (kk : Below y1.heap.size y1 w) => HX.out w (HB6.out.trans (kk.mono HB6.out.size)))
    clear hpu hal hct hcz hU htt hUz HAL HOK HQ HX HOF HB6
    obtain ⟨ts, hts⟩ : ∃ ts, (ans U).1 = ts := ⟨_, rfl⟩
    obtain ⟨sp, hsp⟩ : ∃ p, (ans U).2.1 = p := ⟨_, rfl⟩
    obtain ⟨er, her⟩ : ∃ er, (ans U).2.2 = er := ⟨_, rfl⟩
    rw [hts, hsp, her] at hsc
    rw [her] at HPU HLL
    clear hts hsp her
    go_wp2_with fail
    refine hsc.mono ?_
    rintro e w5 ⟨⟨vv, rfl, hrow⟩, hb5⟩
    clear hsc
    unfold K.pv K.pc
    obtain ⟨W6, hW6⟩ : ∃ W6, w5.alloc (.cells #[.int .i64 sp.1, .int .i64 sp.2] 28) = W6 := ⟨_, rfl⟩
    have hb6 : Below w5.heap.size w5 W6 := by rw [<- hW6]; exact (Below.refl _ _).alloc (Nat.le_refl _) _
    have hb56 := hb5.trans (hb6.mono hb5.size)
    obtain ⟨⟨x0, x1⟩, hBW⟩ := HX1.out W6 hb56
    have HBW := hid hBW
    have HX2 := hid (fun (w : World) (kk : Below W6.heap.size W6 w) => HX1.out w (hb56.trans (kk.mono hb56.size)))
    have HW6 := hid hW6
    clear hb5 hb6 hb56 hrow hW6 hBW HX1 HB7
    go_upto_region 11 with fail
    rw [HW6.out]
    cases okb with
    | false =>
      clear HPU HLL HX2
      go_wp2
      go_ret
      exact ⟨rfl, HBW.out⟩
    | true =>
      by_cases he : er = 0
      case neg =>
        have b1 : (er != 0) = true := by simpa using he
        clear HPU HLL HX2
        go_wp2
        go_ret
        exact ⟨rfl, HBW.out⟩
      case pos =>
        subst he
        have hc7 := HPU.out rfl W6
        rw [HLL.out rfl rfl] at hc7
        clear HPU HLL
        go_wp2_with fail
        refine hc7.mono ?_
        rintro e w7 ⟨rfl, hb7⟩
        simp only
        obtain ⟨W8, hW8, hb8, z0, z1⟩ := two_box w7 (.slice none 0 0) (.slice none 0 0) (.int .i64 pl) (.int .i64 pc)
        obtain ⟨y0, y1⟩ := box2 z1 (Below.refl _ W8)
        have hb78 := hb7.trans (hb8.mono hb7.size)
        obtain ⟨⟨x0, x1⟩, hBW⟩ := HX2.out W8 hb78
        have HB8 := hid hBW
        have HW8 := hid hW8
        clear hc7 hb7 hb8 z0 z1 hb78 hBW hW8 HX2 HBW
        have hee := fun w => eql_ps w pl pc pl pc
        have hff : (pl == pl && pc == pc) = true := by simp
        rw [hff] at hee
        have b2 : (cd == cd) = true := by simp
        clear hff
        go_upto_region 14 with fail
        rw [HW8.out]
        go_wp2
        go_ret
        exact ⟨rfl, HB8.out⟩
end Go.Proofs.YtdnklgceghllaaaGreatDoor.M
