import Derived.Test.YtdnklgceghllaaaGreatDoorMPrt
import Derived.Test.YtdnklgceghllaaaGreatDoorKTok
import Derived.Test.YtdnklgceghllaaaGreatDoorDPrims
import Derived.Test.YtdnklgceghllaaaGreatDoorDMath
import Derived.Test.YtdnklgceghllaaaGreatDoorKScan
import Derived.Test.YtdnklgceghllaaaGreatDoorMSame
import Derived.Test.YtdnklgceghllaaaGreatDoorDSort
import Derived.Test.YtdnklgceghllaaaGreatDoorDRead
import Derived.Test.YtdnklgceghllaaaGreatDoorKScanW
import Derived.Test.YtdnklgceghllaaaGreatDoorMPar
import Derived.KernelRfl
namespace Go.Proofs.YtdnklgceghllaaaGreatDoor.M
open Go.RowKit
open Go.Proofs
open Go.Proofs.YtdnklgceghllaaaGreatDoor.T (val val_nil val_snoc stepV dig numI numC numE quo)
set_option linter.unusedVariables false
theorem dig_ch (d : Nat) (h : d < 10) : dig (UInt8.ofNat (48 + d)).toNat = d /\ 48 <= (UInt8.ofNat (48 + d)).toNat /\ (UInt8.ofNat (48 + d)).toNat <= 57 := by
 have key : ∀ e : Fin 10, dig (UInt8.ofNat (48 + e.val)).toNat = e.val /\ 48 <= (UInt8.ofNat (48 + e.val)).toNat /\ (UInt8.ofNat (48 + e.val)).toNat <= 57 := by decide
 exact key ⟨d, h⟩
theorem dd_small (u : Nat) (h : u < 10) : Lib.decDigits u = [UInt8.ofNat (48 + u)] := by rw [Lib.decDigits, dif_pos h]
theorem dd_great (u : Nat) (h : ¬ u < 10) : Lib.decDigits u = Lib.decDigits (u / 10) ++ [UInt8.ofNat (48 + u % 10)] := by rw [Lib.decDigits, dif_neg h]
theorem dd_ne (u : Nat) : Lib.decDigits u ≠ [] := by
 by_cases h : u < 10
 ·rw [dd_small u h]; simp
 ·rw [dd_great u h]; simp
theorem dd_val : ∀ n u, u <= n -> val 10 (Lib.decDigits u) = some u /\ ∀ c ∈ Lib.decDigits u, 48 <= c.toNat /\ c.toNat <= 57 := by
 intro n
 induction n with
 | zero =>
  intro u h
  obtain rfl : u = 0 := by omega
  rw [dd_small 0 (by omega)]
  decide
 | succ n ih =>
  intro u h
  by_cases h1 : u < 10
  ·rw [dd_small u h1]
   have hd := dig_ch u h1
   refine ⟨?_, fun c hc => ?_⟩
   ·have := val_snoc 10 [] (UInt8.ofNat (48 + u))
    simp only [List.nil_append] at this
    rw [this, val_nil, hd.1]; unfold stepV; simp [h1]
   ·rw [List.mem_singleton] at hc; rw [hc]; exact hd.2
  ·rw [dd_great u h1]
   have h10 : u % 10 < 10 := Nat.mod_lt _ (by omega)
   have hd := dig_ch (u % 10) h10
   obtain ⟨h2, h3⟩ := ih (u / 10) (by omega)
   refine ⟨?_, fun c hc => ?_⟩
   ·rw [val_snoc, h2, hd.1]; unfold stepV; simp [h10]; omega
   ·rw [List.mem_append] at hc
    rcases hc with hc | hc
    ·exact h3 c hc
    ·rw [List.mem_singleton] at hc; rw [hc]; exact hd.2
theorem num_dd (x : Nat) : numI (Lib.decDigits x) = some (x : Int) := by
 obtain ⟨hv, hc⟩ := dd_val x x (Nat.le_refl _)
 have hne := dd_ne x
 cases hl : Lib.decDigits x with
 | nil => exact absurd hl hne
 | cons c t =>
  rw [hl] at hv hc
  have h1 := hc c (by simp)
  have hq : quo (c :: t) = false := by
   unfold quo
   split
   ·rename_i a b d e
    have ha : c = a := by
     simp only [List.cons.injEq] at e
     exact e.1
    rw [<- ha]
    have : ¬ c.toNat = 39 := by omega
    simp [this]
   ·rfl
  unfold numI
  rw [hq]
  simp only [Bool.false_eq_true, if_false]
  rw [if_neg (by omega), if_neg (by omega), if_neg (by omega)]
  unfold T.body
  rw [if_neg (by simp), hv]
  rfl
theorem dcm_list (v : Int) (h : 0 <= v /\ v <= 65535) : (dcm v).data.toList = Lib.decDigits v.toNat := by
 have e : wrap64 v = v := by unfold wrap64; omega
 unfold dcm Lib.itoa
 rw [e, if_neg (by omega)]
theorem dcm_num (v : Int) (h : 0 <= v /\ v <= 65535) : numC (dcm v).data.toList = v /\ numE (dcm v).data.toList = 0 := by
 have hn := num_dd v.toNat
 rw [dcm_list v h]
 unfold numC numE T.cellOf T.errOf
 rw [hn]
 have hx : ((v.toNat : Nat) : Int) = v := by omega
 simp only [hx]
 rw [if_pos (by omega), if_pos (by omega)]
 exact ⟨by omega, rfl⟩
theorem dcm_seen (v : Int) (h : 0 <= v /\ v <= 65535) : (∀ c ∈ (dcm v).data.toList, T.seen c.toNat = true) /\ (dcm v).data.toList ≠ [] /\ (dcm v).data.toList.length <= 5 := by
 rw [dcm_list v h]
 refine ⟨fun c hc => ?_, dd_ne _, dd_len 4 _ (by omega)⟩
 have := (dd_val v.toNat v.toNat (Nat.le_refl _)).2 c hc
 have key : ∀ x : Nat, x < 58 -> 48 <= x -> T.seen x = true := by decide
 exact key _ (by omega) this.1
end Go.Proofs.YtdnklgceghllaaaGreatDoor.M
namespace Go.Proofs.YtdnklgceghllaaaGreatDoor.M
open Go.Proofs.YtdnklgceghllaaaGreatDoor.K (Tk)
open Go.Proofs.YtdnklgceghllaaaGreatDoor.Y (Nd Df Ps e0)
open Go.Proofs.YtdnklgceghllaaaGreatDoor.D (Rd Er Re next must add ctl isW lit prm cll define known PM)
open Go.Proofs.YtdnklgceghllaaaGreatDoor.R (lk)
set_option linter.unusedVariables false
set_option maxRecDepth 100000
section
variable (rs im : ByteArray -> Bool) (kn : Rd -> ByteArray -> Bool) (pr : ByteArray -> Option Int) (e : Ps)
def nodeG (r : Rd) : Re :=
 if r.at_.k == 2 then .ok (add (lit r.at_.v r.at_.p) r)
 else match ctl r.at_.t with
 | some f => f r
 | none =>
  if kn r r.at_.t then .ok (add (cll r.at_.t r.at_.p) r)
  else match pr r.at_.t with
  | some op => .ok (add (prm op r.at_.p) r)
  | none => .error (r.at_.p, if rs r.at_.t then 104 else 103)
def bodyG : Nat -> Rd -> Re
 | 0, r => .ok r
 | n + 1, r => if r.ended then .ok r else do
  let r ← next e r
  let r ← nodeG rs kn pr r
  bodyG n r
def nameG (r : Rd) : Re := do
 let r ← next e r
 must (im r.at_.t) r.at_ 101
 must (!kn r r.at_.t) r.at_ 102
 .ok r
def wordG (r : Rd) : Re := do
 let r ← nameG im kn e r
 let t := r.at_
 let r ← bodyG rs kn pr e (r.rest.length + 1) { r with body := [], opn := [], ended := false }
 .ok (define 1 t 0 r.body r)
def numberedG (num : Tk) (r : Rd) : Re := do
 let r ← next e r
 if isW r.at_.t [99, 111, 110, 115, 116, 97, 110, 116] then do
  let r ← nameG im kn e r
  .ok (define 2 r.at_ num.v [] r)
 else if isW r.at_.t [98, 117, 102, 102, 101, 114] then do
  must (decide (num.v <= 16384)) num 106
  let r ← nameG im kn e r
  .ok (define 3 r.at_ num.v [] r)
 else if isW r.at_.t [98, 97, 110, 107] then D.bank e num r
 else .error (r.at_.p, 100)
def itemG (r : Rd) : Re := do
 let r ← next e r
 if r.at_.k == 2 then numberedG im kn e r.at_ r
 else if isW r.at_.t [58] then wordG rs im kn pr e r
 else if isW r.at_.t [118, 97, 114, 105, 97, 98, 108, 101] then do
  let r ← nameG im kn e r
  .ok (define 3 r.at_ 2 [] r)
 else .error (r.at_.p, 100)
def itemsG : Nat -> Rd -> Re
 | 0, r => .ok r
 | n + 1, r => if r.rest.isEmpty then .ok r else do
  let r ← itemG rs im kn pr e r
  itemsG n r
end
theorem bodyG_is (pr : ByteArray -> Option Int) (e : Ps) : ∀ (n : Nat), D.bodyN pr e n = bodyG R.isRes known pr e n
 | 0 => rfl
 | n + 1 => by
  funext r
  rw [D.bodyN, bodyG, bodyG_is pr e n]
  rfl
theorem wordG_is (pr : ByteArray -> Option Int) (e : Ps) : D.word pr e = wordG R.isRes R.isNm known pr e := by
 funext r
 unfold D.word wordG
 simp only [bodyG_is]
 rfl
theorem itemG_is (pr : ByteArray -> Option Int) (e : Ps) : D.item pr e = itemG R.isRes R.isNm known pr e := by
 funext r
 unfold D.item itemG
 rw [wordG_is]
 rfl
theorem itemsG_is (pr : ByteArray -> Option Int) (e : Ps) : ∀ (n : Nat) (r : Rd), D.itemsN pr e n r = itemsG R.isRes R.isNm known pr e n r
 | 0, r => rfl
 | n + 1, r => by
  rw [D.itemsN, itemsG, itemG_is, show D.itemsN pr e n = itemsG R.isRes R.isNm known pr e n from funext (itemsG_is pr e n)]
theorem list_inj {a b : ByteArray} (h : a.data.toList = b.data.toList) : a = b := ByteArray.ext (Array.toList_inj.1 h)
def isB (a b : ByteArray) : Bool := a.data.toList == b.data.toList
theorem isB_is (a b : ByteArray) : decide (a = b) = isB a b := by
 unfold isB
 by_cases h : a = b
 ·subst h; simp
 ·rw [decide_eq_false h]
  symm
  rw [beq_eq_false_iff_ne]
  exact fun c => h (list_inj c)
def prF (s : ByteArray) : Bool := !s.data.toList.isEmpty && P.allN.any fun x => (P.nm x).data.toList == s.data.toList
def rsF (s : ByteArray) : Bool := (R.resL.any fun l => s.data.toList == l) || prF s
def imF (s : ByteArray) : Bool := T.nameB s.data.toList && !rsF s
def knF (r : Rd) (s : ByteArray) : Bool := (r.defs.map (·.nm)).any fun x => isB x s
theorem rs_is : R.isRes = rsF := by
 funext s
 simp only [R.isRes, rsF, R.resW, R.prN, prF, ByteArray.toList_eq]
theorem im_is : R.isNm = imF := by
 funext s
 rw [R.isNm, rs_is, imF]
theorem kn_is : known = knF := by
 funext r s
 simp only [known, knF, isB_is]
def PL : R.En := (⟨#[]⟩, 8) :: (List.range' 9 55).map fun x => (P.nm x, (x : Int))
theorem PM_is : PM = PL := by kernel_rfl
def lkF : R.En -> ByteArray -> Option Int
 | [], _ => none
 | (s, v) :: r, x => if isB s x then some v else lkF r x
theorem lkF_is (L : R.En) (x : ByteArray) : lk L x = lkF L x := by
 induction L with
 | nil => rfl
 | cons a r ih =>
  obtain ⟨s, v⟩ := a
  rw [lk, lkF, ih, <- isB_is]
  by_cases h : s = x <;> simp [h]
theorem lk_is : lk PM = lkF PL := by
 funext x
 rw [PM_is, lkF_is]
theorem itemsF_is (e : Ps) (n : Nat) (r : Rd) : D.itemsN (lk PM) e n r = itemsG rsF imF knF (lkF PL) e n r := by
 rw [itemsG_is, rs_is, im_is, kn_is, lk_is]
end Go.Proofs.YtdnklgceghllaaaGreatDoor.M
namespace Go.Proofs.YtdnklgceghllaaaGreatDoor.M
open Go.RowKit
open Go.Proofs
open Go.Proofs.YtdnklgceghllaaaGreatDoor.K (Tk kd)
open Go.Proofs.YtdnklgceghllaaaGreatDoor.Y (Nd Df Ps Bk e0)
open Go.Proofs.YtdnklgceghllaaaGreatDoor.D (Rd Er Re next must add put begin_ close turnElse turnWhile leave finish ctl isW lit prm cll ext setK setHas standIn node bodyN known PM)
open Go.Proofs.YtdnklgceghllaaaGreatDoor.R (ck cks own1 fits inn isNm lk)
set_option linter.unusedVariables false
set_option linter.unusedSimpArgs false
set_option maxRecDepth 100000
def WfT (t : Tk) : Prop := t.k = kd t.t.data.toList /\ t.v = T.numC t.t.data.toList
def vn : Nd -> Bool
 | ⟨k, _, v, _, th, el, _, _⟩ => (k != 2 || (decide (0 <= v) && decide (v <= 65535))) && ((th.map vn).all id && (el.map vn).all id)
def vns (l : List Nd) : Bool := (l.map vn).all id
theorem vn_is (n : Nd) : vn n = ((n.k != 2 || (decide (0 <= n.v) && decide (n.v <= 65535))) && (vns n.th && vns n.el)) := by cases n; rw [vn]; rfl
theorem vns_mem {l : List Nd} (h : vns l = true) : ∀ m ∈ l, vn m = true := fun m hm => by
 unfold vns at h
 rw [List.all_eq_true] at h
 exact h _ (List.mem_map.2 ⟨m, hm, rfl⟩)
def addL (l : List Nd) (r : Rd) : Rd := l.foldl (fun r n => add n r) r
theorem addL_cons (n : Nd) (l : List Nd) (r : Rd) : addL (n :: l) r = addL l (add n r) := rfl
theorem add_top (n t : Nd) (o : List Nd) (r : Rd) : add n { r with opn := o ++ [t] } = { r with opn := o ++ [put t n] } := by
 unfold add
 simp only [List.getLast?_concat, List.dropLast_concat]
theorem addL_th : ∀ (l : List Nd) (o : List Nd) (t : Nd) (r : Rd), (t.has || t.k == 6) = false -> addL l { r with opn := o ++ [t] } = { r with opn := o ++ [{ t with th := t.th ++ l }] }
 | [], o, t, r, _ => by cases t; simp [addL]
 | n :: l, o, t, r, h => by
  rw [addL_cons, add_top]
  have e : put t n = { t with th := t.th ++ [n] } := by unfold put; rw [if_neg (by rw [h]; decide)]
  rw [e, addL_th l o { t with th := t.th ++ [n] } r h]
  simp
theorem addL_el : ∀ (l : List Nd) (o : List Nd) (t : Nd) (r : Rd), (t.has || t.k == 6) = true -> addL l { r with opn := o ++ [t] } = { r with opn := o ++ [{ t with el := t.el ++ l }] }
 | [], o, t, r, _ => by cases t; simp [addL]
 | n :: l, o, t, r, h => by
  rw [addL_cons, add_top]
  have e : put t n = { t with el := t.el ++ [n] } := by unfold put; rw [if_pos h]
  rw [e, addL_el l o { t with el := t.el ++ [n] } r h]
  simp
structure St (r : Rd) (i : Nat × Bool) (names : List ByteArray) : Prop where
 nend : r.ended = false
 dep : r.opn.length = i.1
 ind : (r.opn.any fun n => n.k == 8) = i.2
 nms : r.defs.map (·.nm) = names
theorem St.move {r : Rd} {i : Nat × Bool} {names : List ByteArray} (h : St r i names) (ts : List Tk) (a : Tk) : St { r with rest := ts, at_ := a } i names := ⟨h.nend, h.dep, h.ind, h.nms⟩
theorem put_k (t n : Nd) : (put t n).k = t.k := by unfold put; split <;> rfl
theorem St.add {r : Rd} {i : Nat × Bool} {names : List ByteArray} (h : St r i names) (n : Nd) : St (add n r) i names := by
 rcases List.eq_nil_or_concat r.opn with e | ⟨o, t, e⟩
 ·have : D.add n r = { r with body := r.body ++ [n] } := by unfold D.add; rw [e]; rfl
  rw [this]
  exact ⟨h.nend, h.dep, h.ind, h.nms⟩
 ·have e' : r.opn = o ++ [t] := by rw [e, List.concat_eq_append]
  have : r = { r with opn := o ++ [t] } := by rw [<- e']
  have h1 := h.dep
  have h2 := h.ind
  rw [e'] at h1 h2
  rw [this, add_top]
  refine ⟨h.nend, ?_, ?_, h.nms⟩
  ·simpa using h1
  ·simpa [put_k] using h2
theorem body_step (e : Ps) (m : Nat) (r r1 : Rd) (t : Tk) (ts : List Tk) (hr : r.rest = t :: ts) (he : r.ended = false) (h : node (lk PM) { r with at_ := t, rest := ts } = .ok r1) : bodyN (lk PM) e (m + 1) r = bodyN (lk PM) e m r1 := by
 rw [bodyN, if_neg (by rw [he]; decide)]
 have hn : next e r = .ok { r with at_ := t, rest := ts } := by unfold next; rw [hr]
 rw [hn]
 show (node (lk PM) { r with at_ := t, rest := ts } >>= _) = _
 rw [h]
 rfl
theorem node_lit (r : Rd) (h : r.at_.k = 2) : node (lk PM) r = .ok (add (lit r.at_.v r.at_.p) r) := by
 unfold node
 rw [if_pos (by rw [h]; rfl)]
theorem node_ctl (r : Rd) (f : Rd -> Re) (h : ¬ r.at_.k = 2) (hc : ctl r.at_.t = some f) : node (lk PM) r = f r := by
 unfold node
 rw [if_neg (by simpa using h), hc]
theorem node_call (r : Rd) (h : ¬ r.at_.k = 2) (hc : ctl r.at_.t = none) (hk : known r r.at_.t = true) : node (lk PM) r = .ok (add (cll r.at_.t r.at_.p) r) := by
 unfold node
 rw [if_neg (by simpa using h), hc]
 simp only
 rw [if_pos hk]
theorem node_prim (r : Rd) (op : Int) (h : ¬ r.at_.k = 2) (hc : ctl r.at_.t = none) (hk : known r r.at_.t = false) (hp : lk PM r.at_.t = some op) : node (lk PM) r = .ok (add (prm op r.at_.p) r) := by
 unfold node
 rw [if_neg (by simpa using h), hc]
 simp only
 rw [if_neg (by rw [hk]; decide), hp]
theorem nm_plain {s : ByteArray} (h : isNm s = true) : kd s.data.toList = 1 /\ ctl s = none /\ rsF s = false := by
 rw [im_is] at h
 unfold imF at h
 rw [Bool.and_eq_true] at h
 obtain ⟨h1, h2⟩ := h
 have hr : rsF s = false := by simpa using h2
 refine ⟨?_, ?_, hr⟩
 ·unfold T.nameB at h1
  simp only [Bool.and_eq_true, decide_eq_true_eq] at h1
  have hn := h1.2.2.2.2.2
  have : T.numE s.data.toList = 20 := by unfold T.numE T.errOf; rw [hn]
  unfold kd
  rw [this]; rfl
 ·unfold rsF at hr
  rw [Bool.or_eq_false_iff] at hr
  have hq : ∀ l ∈ R.resL, isW s l = false := fun l hl => by
   have := List.any_eq_false.1 hr.1 l hl
   unfold isW
   simpa using this
  unfold ctl
  rw [hq _ (by decide), hq _ (by decide), hq _ (by decide), hq _ (by decide), hq _ (by decide), hq _ (by decide), hq _ (by decide), hq _ (by decide), hq _ (by decide), hq _ (by decide), hq _ (by decide), hq _ (by decide)]
  rfl
theorem prim_all : (List.range' 9 55).all (fun x => decide (kd (P.nm x).data.toList = 1) && ((ctl (P.nm x)).isNone && (rsF (P.nm x) && decide (lkF PL (P.nm x) = some (x : Int))))) = true := by kernel_rfl
theorem prim_word (x : Nat) (h1 : 9 <= x) (h2 : x <= 63) : kd (P.nm x).data.toList = 1 /\ ctl (P.nm x) = none /\ rsF (P.nm x) = true /\ lk PM (P.nm x) = some (x : Int) := by
 have := List.all_eq_true.1 prim_all x (List.mem_range'_1.2 (by omega))
 simp only [Bool.and_eq_true, decide_eq_true_eq] at this
 obtain ⟨a, b, c, d⟩ := this
 exact ⟨a, by simpa using b, c, by rw [lk_is]; exact d⟩
theorem known_of {r : Rd} {i : Nat × Bool} {names : List ByteArray} (h : St r i names) (s : ByteArray) : known r s = names.any fun x => decide (x = s) := by unfold known; rw [h.nms]
theorem known_prim {names : List ByteArray} (hN : ∀ s ∈ names, isNm s = true) {s : ByteArray} (hs : rsF s = true) : (names.any fun x => decide (x = s)) = false := by
 rw [List.any_eq_false]
 intro x hx
 simp only [decide_eq_true_eq]
 rintro rfl
 rw [(nm_plain (hN _ hx)).2.2] at hs
 cases hs
theorem nm_empty {s : ByteArray} (h : s.toList.isEmpty = true) : s = e0 := by
 rw [ByteArray.toList_eq, List.isEmpty_iff] at h
 exact list_inj (h.trans rfl)
theorem sml_nil_l {l : List Nd} (h : l.isEmpty = true) : l = [] := List.isEmpty_iff.1 h
theorem uses_is {n : Nd} (h : R.uses n = true) : 1 <= n.k /\ n.k <= 9 /\ (n.k = 1 \/ n.op = 0) /\ (n.k = 2 \/ n.v = 0) /\ (n.k = 3 \/ n.nm = e0) /\ (R.strc n.k = true \/ n.th = []) /\ (n.k = 6 \/ (n.k = 4 /\ n.has = true) \/ n.el = []) /\ (n.k = 4 \/ n.has = false) := by
 unfold R.uses R.usesF at h
 simp only [Bool.and_eq_true, Bool.or_eq_true, decide_eq_true_eq, beq_iff_eq, Bool.not_eq_true', Bool.not_eq_eq_eq_not, Bool.not_true] at h
 obtain ⟨a, b, c, d, f, g, i, j⟩ := h
 refine ⟨a, b, c, d, f.imp id nm_empty, g.imp id sml_nil_l, ?_, j⟩
 rcases i with (i | i) | i
 ·exact .inl i
 ·exact .inr (.inl i)
 ·exact .inr (.inr (sml_nil_l i))
end Go.Proofs.YtdnklgceghllaaaGreatDoor.M
namespace Go.Proofs.YtdnklgceghllaaaGreatDoor.M
open Go.RowKit
open Go.Proofs
open Go.Proofs.YtdnklgceghllaaaGreatDoor.K (Tk kd)
open Go.Proofs.YtdnklgceghllaaaGreatDoor.Y (Nd Df Ps Bk e0)
open Go.Proofs.YtdnklgceghllaaaGreatDoor.D (Rd Er Re next must add put begin_ close turnElse turnWhile leave finish ctl isW lit prm cll ext setK setHas standIn node bodyN known PM)
open Go.Proofs.YtdnklgceghllaaaGreatDoor.R (ck cks own1 fits inn isNm lk)
set_option linter.unusedVariables false
set_option linter.unusedSimpArgs false
set_option maxRecDepth 100000
theorem add_rest (n : Nd) (r : Rd) : (D.add n r).rest = r.rest := by unfold D.add; split <;> rfl
theorem add_move (n : Nd) (r : Rd) (ts : List Tk) (a : Tk) : { D.add n r with rest := ts, at_ := a } = D.add n { r with rest := ts, at_ := a } := by
 unfold D.add
 simp only
 split <;> rfl
def CN (n : Nd) : Prop := ∀ (names : List ByteArray) (i : Nat × Bool), (∀ s ∈ names, isNm s = true) -> ck names n i = 0 -> vn n = true -> i.1 <= 32 -> ∀ (e : Ps) (ts1 : List Tk), (∀ t ∈ ts1, WfT t) -> ts1.map (·.t) = nw n -> ∀ (r : Rd) (ts2 : List Tk), r.rest = ts1 ++ ts2 -> St r i names ->
 ∃ n' a, sm n n' = true /\ ∀ m, bodyN (lk PM) e (m + ts1.length) r = bodyN (lk PM) e m (add n' { r with rest := ts2, at_ := a })
def CLs (l : List Nd) : Prop := ∀ (names : List ByteArray) (i : Nat × Bool), (∀ s ∈ names, isNm s = true) -> cks names l i = 0 -> vns l = true -> i.1 <= 32 -> ∀ (e : Ps) (ts1 : List Tk), (∀ t ∈ ts1, WfT t) -> ts1.map (·.t) = nws l -> ∀ (r : Rd) (ts2 : List Tk), r.rest = ts1 ++ ts2 -> St r i names ->
 ∃ l' a, sml l l' = true /\ ∀ m, bodyN (lk PM) e (m + ts1.length) r = bodyN (lk PM) e m (addL l' { r with rest := ts2, at_ := a })
theorem cls_of : ∀ (l : List Nd), (∀ m ∈ l, CN m) -> CLs l
 | [], _ => fun names i hN hc hv hi e ts1 hw hm r ts2 hr hs => by
  have : ts1 = [] := by simpa [nws_nil] using hm
  subst this
  refine ⟨[], r.at_, rfl, fun m => ?_⟩
  have : ({ r with rest := ts2, at_ := r.at_ } : Rd) = r := by
   rw [List.nil_append] at hr
   rw [<- hr]
  show bodyN _ _ m r = bodyN _ _ m { r with rest := ts2, at_ := r.at_ }
  rw [this]
 | n :: l, h => fun names i hN hc hv hi e ts1 hw hm r ts2 hr hs => by
  rw [nws_cons] at hm
  obtain ⟨ta, tb, rfl, ha, hb⟩ := List.map_eq_append_iff.1 hm
  have hcn := cks_mem hc n (by simp)
  rw [R.cks_cons, if_pos hcn] at hc
  have hvn := vns_mem hv n (by simp)
  have hvl : vns l = true := by
   unfold vns at hv ⊢
   rw [List.map_cons, List.all_cons, Bool.and_eq_true] at hv
   exact hv.2
  obtain ⟨n', a, s1, b1⟩ := h n (by simp) names i hN hcn hvn hi e ta (fun t ht => hw t (by simp [ht])) ha r (tb ++ ts2) (by rw [hr, List.append_assoc]) hs
  obtain ⟨l', a2, s2, b2⟩ := cls_of l (fun m hm => h m (by simp [hm])) names i hN hc hvl hi e tb (fun t ht => hw t (by simp [ht])) hb (add n' { r with rest := tb ++ ts2, at_ := a }) ts2 (add_rest _ _) ((hs.move _ _).add n')
  refine ⟨n' :: l', a2, by rw [sml_cc, s1, s2]; rfl, fun m => ?_⟩
  rw [List.length_append, show m + (ta.length + tb.length) = m + tb.length + ta.length by omega, b1, b2, addL_cons, add_move]
theorem tok1 {ts : List Tk} {w : ByteArray} (h : ts.map (·.t) = [w]) : ∃ t, ts = [t] /\ t.t = w := by
 match ts, h with
 | [t], h => exact ⟨t, rfl, by simpa using h⟩
theorem tok3 {ts : List Tk} {a c : ByteArray} {B : List ByteArray} (h : ts.map (·.t) = [a] ++ B ++ [c]) : ∃ t0 tb t9, ts = t0 :: (tb ++ [t9]) /\ t0.t = a /\ tb.map (·.t) = B /\ t9.t = c := by
 obtain ⟨x, y, rfl, hx, hy⟩ := List.map_eq_append_iff.1 h
 obtain ⟨x1, x2, rfl, h1, h2⟩ := List.map_eq_append_iff.1 hx
 obtain ⟨t0, rfl, e0⟩ := tok1 h1
 obtain ⟨t9, rfl, e9⟩ := tok1 hy
 exact ⟨t0, x2, t9, by simp, e0, h2, e9⟩
theorem tok5 {ts : List Tk} {a c f : ByteArray} {B C : List ByteArray} (h : ts.map (·.t) = [a] ++ B ++ [c] ++ C ++ [f]) : ∃ t0 tb t5 tc t9, ts = t0 :: (tb ++ (t5 :: (tc ++ [t9]))) /\ t0.t = a /\ tb.map (·.t) = B /\ t5.t = c /\ tc.map (·.t) = C /\ t9.t = f := by
 obtain ⟨x, y, rfl, hx, hy⟩ := List.map_eq_append_iff.1 h
 obtain ⟨x1, x2, rfl, h1, h2⟩ := List.map_eq_append_iff.1 hx
 obtain ⟨t0, tb, t5, rfl, e0, eb, e5⟩ := tok3 h1
 obtain ⟨t9, rfl, e9⟩ := tok1 hy
 exact ⟨t0, tb, t5, x2, t9, by simp, e0, eb, e5, h2, e9⟩
theorem not2 {t : Tk} (h : WfT t) {w : ByteArray} (e : t.t = w) (hk : kd w.data.toList = 1) : ¬ t.k = 2 := by rw [h.1, e, hk]; decide
theorem open_step (e : Ps) (r : Rd) (t : Tk) (ts : List Tk) (i : Nat × Bool) (names : List ByteArray) (hr : r.rest = t :: ts) (hs : St r i names) (hi : i.1 < 32) (hw : WfT t) (w : ByteArray) (k : Int) (hk : kd w.data.toList = 1) (hc : ctl w = some (begin_ k)) (ht : t.t = w) (m : Nat) :
  bodyN (lk PM) e (m + 1) r = bodyN (lk PM) e m { r with rest := ts, at_ := t, opn := r.opn ++ [⟨k, 0, 0, e0, [], [], false, t.p⟩] } := by
 refine body_step e m r _ t ts hr hs.nend ?_
 rw [node_ctl _ (begin_ k) (not2 hw ht hk) (by show ctl t.t = _; rw [ht, hc])]
 unfold begin_ must
 simp only
 rw [if_pos (by rw [decide_eq_true_eq, hs.dep]; exact hi)]
 rfl
theorem close_step (e : Ps) (r : Rd) (t : Tk) (ts : List Tk) (hr : r.rest = t :: ts) (he : r.ended = false) (o : List Nd) (x : Nd) (ho : r.opn = o ++ [x]) (hw : WfT t) (w : ByteArray) (k b : Int) (hx : x.k = k) (hk : kd w.data.toList = 1) (hc : ctl w = some (close k b)) (ht : t.t = w) (m : Nat) :
  bodyN (lk PM) e (m + 1) r = bodyN (lk PM) e m (add (setK x b) { r with rest := ts, at_ := t, opn := o }) := by
 refine body_step e m r _ t ts hr he ?_
 rw [node_ctl _ (close k b) (not2 hw ht hk) (by show ctl t.t = _; rw [ht, hc])]
 unfold close must standIn
 simp only [ho, List.getLast?_concat, hx, beq_self_eq_true, if_true, List.dropLast_concat]
 rfl
theorem turn_step (e : Ps) (r : Rd) (t : Tk) (ts : List Tk) (hr : r.rest = t :: ts) (he : r.ended = false) (o : List Nd) (x y : Nd) (ho : r.opn = o ++ [x]) (hw : WfT t) (w : ByteArray) (f : Rd -> Re) (hk : kd w.data.toList = 1) (hc : ctl w = some f) (ht : t.t = w) (hf : ∀ r' : Rd, r'.opn = o ++ [x] -> f r' = .ok { r' with opn := o ++ [y] }) (m : Nat) :
  bodyN (lk PM) e (m + 1) r = bodyN (lk PM) e m { r with rest := ts, at_ := t, opn := o ++ [y] } := by
 refine body_step e m r _ t ts hr he ?_
 rw [node_ctl _ f (not2 hw ht hk) (by show ctl t.t = _; rw [ht, hc])]
 exact hf _ ho
theorem st_push {r : Rd} {i : Nat × Bool} {names : List ByteArray} (hs : St r i names) (n : Nd) (ts : List Tk) (t : Tk) (x : Nd) (hx : (x.k == 8) = (n.k == 8)) : St { r with rest := ts, at_ := t, opn := r.opn ++ [x] } (inn n i) names := by
 refine ⟨hs.nend, ?_, ?_, hs.nms⟩
 ·show (r.opn ++ [x]).length = i.1 + 1
  rw [List.length_append, hs.dep]; rfl
 ·show ((r.opn ++ [x]).any _) = (i.2 || n.k == 8)
  rw [List.any_append, hs.ind, List.any_cons, List.any_nil, Bool.or_false, hx]
theorem one_list (n : Nd) (kw0 kw9 : ByteArray) (k0 k9 : Int) (h0 : kd kw0.data.toList = 1) (c0 : ctl kw0 = some (begin_ k0)) (h9 : kd kw9.data.toList = 1) (c9 : ctl kw9 = some (close k0 k9)) (h8 : (k0 == 8) = (n.k == 8)) (h6 : (k0 == 6) = false) (hl : CLs n.th)
  (names : List ByteArray) (i : Nat × Bool) (hN : ∀ s ∈ names, isNm s = true) (hc : cks names n.th (inn n i) = 0) (hv : vns n.th = true) (hi : i.1 < 32) (e : Ps) (ts1 : List Tk) (hw : ∀ t ∈ ts1, WfT t) (hm : ts1.map (·.t) = [kw0] ++ nws n.th ++ [kw9]) (r : Rd) (ts2 : List Tk) (hr : r.rest = ts1 ++ ts2) (hs : St r i names) :
  ∃ l' a p, sml n.th l' = true /\ ∀ m, bodyN (lk PM) e (m + ts1.length) r = bodyN (lk PM) e m (add ⟨k9, 0, 0, e0, l', [], false, p⟩ { r with rest := ts2, at_ := a }) := by
 obtain ⟨t0, tb, t9, rfl, w0, wb, w9⟩ := tok3 hm
 have hr' : r.rest = t0 :: (tb ++ (t9 :: ts2)) := by rw [hr]; simp
 obtain ⟨l', a, s1, b1⟩ := hl names (inn n i) hN hc hv (by show i.1 + 1 <= 32; omega) e tb (fun t ht => hw t (by simp [ht])) wb { r with rest := tb ++ (t9 :: ts2), at_ := t0, opn := r.opn ++ [⟨k0, 0, 0, e0, [], [], false, t0.p⟩] } (t9 :: ts2) rfl (st_push hs n _ t0 _ h8)
 refine ⟨l', t9, t0.p, s1, fun m => ?_⟩
 have hlen : m + (t0 :: (tb ++ [t9])).length = m + 1 + tb.length + 1 := by simp only [List.length_cons, List.length_append, List.length_nil]; omega
 rw [hlen, open_step e r t0 _ i names hr' hs hi (hw t0 (by simp)) kw0 k0 h0 c0 w0, b1]
 have ht := addL_th l' r.opn ⟨k0, 0, 0, e0, [], [], false, t0.p⟩ { r with rest := t9 :: ts2, at_ := a } (by simpa using h6)
 simp only at ht
 rw [ht]
 exact close_step e { r with rest := t9 :: ts2, at_ := a, opn := r.opn ++ [⟨k0, 0, 0, e0, [] ++ l', [], false, t0.p⟩] } t9 ts2 (by rfl) (by exact hs.nend) r.opn ⟨k0, 0, 0, e0, [] ++ l', [], false, t0.p⟩ (by rfl) (hw t9 (by simp)) kw9 k0 k9 rfl h9 c9 w9 m
theorem two_list (n : Nd) (kw0 kw5 kw9 : ByteArray) (k0 k2 k9 : Int) (hs2 : Bool) (f : Rd -> Re) (h0 : kd kw0.data.toList = 1) (c0 : ctl kw0 = some (begin_ k0)) (h5 : kd kw5.data.toList = 1) (c5 : ctl kw5 = some f) (h9 : kd kw9.data.toList = 1) (c9 : ctl kw9 = some (close k2 k9)) (h8 : (k0 == 8) = (n.k == 8)) (h82 : (k2 == 8) = (n.k == 8)) (h6 : (k0 == 6) = false) (h62 : (hs2 || k2 == 6) = true)
  (hf : ∀ (o : List Nd) (l : List Nd) (p : Ps) (r' : Rd), r'.opn = o ++ [⟨k0, 0, 0, e0, l, [], false, p⟩] -> f r' = .ok { r' with opn := o ++ [⟨k2, 0, 0, e0, l, [], hs2, p⟩] }) (hl : CLs n.th) (hl2 : CLs n.el)
  (names : List ByteArray) (i : Nat × Bool) (hN : ∀ s ∈ names, isNm s = true) (hc : cks names n.th (inn n i) = 0) (hc2 : cks names n.el (inn n i) = 0) (hv : vns n.th = true) (hv2 : vns n.el = true) (hi : i.1 < 32) (e : Ps) (ts1 : List Tk) (hw : ∀ t ∈ ts1, WfT t) (hm : ts1.map (·.t) = [kw0] ++ nws n.th ++ [kw5] ++ nws n.el ++ [kw9]) (r : Rd) (ts2 : List Tk) (hr : r.rest = ts1 ++ ts2) (hs : St r i names) :
  ∃ l' l2' a p, sml n.th l' = true /\ sml n.el l2' = true /\ ∀ m, bodyN (lk PM) e (m + ts1.length) r = bodyN (lk PM) e m (add ⟨k9, 0, 0, e0, l', l2', hs2, p⟩ { r with rest := ts2, at_ := a }) := by
 obtain ⟨t0, tb, t5, tc, t9, rfl, w0, wb, w5, wc, w9⟩ := tok5 hm
 have hr' : r.rest = t0 :: (tb ++ (t5 :: (tc ++ (t9 :: ts2)))) := by rw [hr]; simp
 obtain ⟨l', a, s1, b1⟩ := hl names (inn n i) hN hc hv (by show i.1 + 1 <= 32; omega) e tb (fun t ht => hw t (by simp [ht])) wb { r with rest := tb ++ (t5 :: (tc ++ (t9 :: ts2))), at_ := t0, opn := r.opn ++ [⟨k0, 0, 0, e0, [], [], false, t0.p⟩] } (t5 :: (tc ++ (t9 :: ts2))) rfl (st_push hs n _ t0 _ h8)
 obtain ⟨l2', a2, s2, b2⟩ := hl2 names (inn n i) hN hc2 hv2 (by show i.1 + 1 <= 32; omega) e tc (fun t ht => hw t (by simp [ht])) wc { r with rest := tc ++ (t9 :: ts2), at_ := t5, opn := r.opn ++ [⟨k2, 0, 0, e0, [] ++ l', [], hs2, t0.p⟩] } (t9 :: ts2) rfl (st_push hs n _ t5 _ h82)
 refine ⟨l', l2', t9, t0.p, s1, s2, fun m => ?_⟩
 have hlen : m + (t0 :: (tb ++ (t5 :: (tc ++ [t9])))).length = m + 1 + tc.length + 1 + tb.length + 1 := by simp only [List.length_cons, List.length_append, List.length_nil]; omega
 rw [hlen, open_step e r t0 _ i names hr' hs hi (hw t0 (by simp)) kw0 k0 h0 c0 w0, b1]
 have ht := addL_th l' r.opn ⟨k0, 0, 0, e0, [], [], false, t0.p⟩ { r with rest := t5 :: (tc ++ (t9 :: ts2)), at_ := a } (by simpa using h6)
 simp only at ht
 rw [ht]
 refine (turn_step e { r with rest := t5 :: (tc ++ (t9 :: ts2)), at_ := a, opn := r.opn ++ [⟨k0, 0, 0, e0, [] ++ l', [], false, t0.p⟩] } t5 _ (by rfl) (by exact hs.nend) r.opn ⟨k0, 0, 0, e0, [] ++ l', [], false, t0.p⟩ ⟨k2, 0, 0, e0, [] ++ l', [], hs2, t0.p⟩ (by rfl) (hw t5 (by simp)) kw5 f h5 c5 w5 (fun r' hr' => hf r.opn _ _ r' hr') _).trans ?_
 refine (b2 _).trans ?_
 have ht2 := addL_el l2' r.opn ⟨k2, 0, 0, e0, [] ++ l', [], hs2, t0.p⟩ { r with rest := t9 :: ts2, at_ := a2 } h62
 simp only at ht2
 rw [ht2]
 exact close_step e { r with rest := t9 :: ts2, at_ := a2, opn := r.opn ++ [⟨k2, 0, 0, e0, [] ++ l', [] ++ l2', hs2, t0.p⟩] } t9 ts2 (by rfl) (by exact hs.nend) r.opn ⟨k2, 0, 0, e0, [] ++ l', [] ++ l2', hs2, t0.p⟩ (by rfl) (hw t9 (by simp)) kw9 k2 k9 rfl h9 c9 w9 m
end Go.Proofs.YtdnklgceghllaaaGreatDoor.M
namespace Go.Proofs.YtdnklgceghllaaaGreatDoor.M
open Go.RowKit
open Go.Proofs
open Go.Proofs.YtdnklgceghllaaaGreatDoor.K (Tk kd)
open Go.Proofs.YtdnklgceghllaaaGreatDoor.Y (Nd Df Ps Bk e0)
open Go.Proofs.YtdnklgceghllaaaGreatDoor.D (Rd Er Re next must add put begin_ close turnElse turnWhile leave finish ctl isW lit prm cll ext setK setHas standIn node bodyN known PM)
open Go.Proofs.YtdnklgceghllaaaGreatDoor.R (ck cks own1 fits inn isNm lk dfE dsE bkE chk)
set_option linter.unusedVariables false
set_option linter.unusedSimpArgs false
set_option maxRecDepth 100000
theorem dcm_kd (v : Int) (h : 0 <= v /\ v <= 65535) : kd (dcm v).data.toList = 2 := by
 unfold kd
 rw [(dcm_num v h).2]; rfl
theorem cn_any (n : Nd) : CN n := by
 refine Y.Nd.ind (P := CN) ?_ n
 intro n h1 h2 names i hN hc hv hi e ts1 hw hm r ts2 hr hs
 have hL1 := cls_of n.th h1
 have hL2 := cls_of n.el h2
 obtain ⟨ho, ht, he⟩ := ck_own hc
 obtain ⟨hu, hf, hex, hdp⟩ := own_is ho
 obtain ⟨k1, k9, uo, uv, un, ut, ue, uh⟩ := uses_is hu
 rw [vn_is, Bool.and_eq_true, Bool.and_eq_true] at hv
 obtain ⟨hv0, hv1, hv2⟩ := hv
 rw [nw_is] at hm
 unfold nwf at hm
 have hlt : R.strc n.k = true -> i.1 < 32 := fun hk => by
  have : ¬ i.1 = 32 := fun c => hdp ⟨hk, c⟩
  omega
 have hpr := fits_pr (names := names) (n := n) hf
 have hnn := fits_nm (names := names) (n := n) hf
 obtain ⟨k, op, v, nm, th, el, has, p⟩ := n
 simp only at *
 by_cases e1 : k = 1
 ·subst e1
  rw [if_pos rfl] at hm
  obtain ⟨t, rfl, wt⟩ := tok1 hm
  obtain ⟨o9, o63⟩ := hpr rfl
  obtain rfl : v = 0 := by omega
  obtain rfl : nm = e0 := un.resolve_left (by omega)
  obtain rfl : th = [] := ut.resolve_left (by decide)
  obtain rfl : el = [] := (ue.resolve_left (by omega)).resolve_left (by omega)
  obtain rfl : has = false := uh.resolve_left (by omega)
  obtain ⟨x, rfl⟩ : ∃ x : Nat, op = (x : Int) := ⟨op.toNat, by omega⟩
  have hp : pn (x : Int) = P.nm x := by unfold pn; rw [if_neg (by omega)]; rfl
  rw [hp] at wt
  obtain ⟨q1, q2, q3, q4⟩ := prim_word x (by omega) (by omega)
  refine ⟨prm (x : Int) t.p, t, by rw [prm, sm_mk]; simp [sml_nn], fun m => ?_⟩
  refine body_step e m r _ t ts2 (by rw [hr]; rfl) hs.nend ?_
  exact node_prim { r with rest := ts2, at_ := t } (x : Int) (not2 (hw t (by simp)) wt q1) (by show ctl t.t = _; rw [wt]; exact q2) (by rw [known_of (hs.move ts2 t)]; show (names.any fun y => decide (y = t.t)) = false; rw [wt]; exact known_prim hN q3) (by show lk PM t.t = _; rw [wt]; exact q4)
 rw [if_neg e1] at hm
 by_cases e2 : k = 2
 ·subst e2
  rw [if_pos rfl] at hm
  obtain ⟨t, rfl, wt⟩ := tok1 hm
  have hr16 : 0 <= v /\ v <= 65535 := by simpa using hv0
  obtain rfl : op = 0 := by omega
  obtain rfl : nm = e0 := un.resolve_left (by omega)
  obtain rfl : th = [] := ut.resolve_left (by decide)
  obtain rfl : el = [] := (ue.resolve_left (by omega)).resolve_left (by omega)
  obtain rfl : has = false := uh.resolve_left (by omega)
  have hwt := hw t (by simp)
  have hk2 : t.k = 2 := by rw [hwt.1, wt]; exact dcm_kd v hr16
  have hvv : t.v = v := by rw [hwt.2, wt]; exact (dcm_num v hr16).1
  refine ⟨lit v t.p, t, by rw [lit, sm_mk]; simp [sml_nn], fun m => ?_⟩
  refine body_step e m r _ t ts2 (by rw [hr]; rfl) hs.nend ?_
  rw [node_lit { r with rest := ts2, at_ := t } hk2]
  show Except.ok (add (lit t.v t.p) _) = _
  rw [hvv]
 rw [if_neg e2] at hm
 by_cases e3 : k = 3
 ·subst e3
  rw [if_pos rfl] at hm
  obtain ⟨t, rfl, wt⟩ := tok1 hm
  obtain rfl : op = 0 := by omega
  obtain rfl : v = 0 := by omega
  obtain rfl : th = [] := ut.resolve_left (by decide)
  obtain rfl : el = [] := (ue.resolve_left (by omega)).resolve_left (by omega)
  obtain rfl : has = false := uh.resolve_left (by omega)
  have hmem := hnn rfl
  obtain ⟨q1, q2, q3⟩ := nm_plain (hN _ hmem)
  refine ⟨cll nm t.p, t, by rw [cll, sm_mk]; simp [sml_nn], fun m => ?_⟩
  refine body_step e m r _ t ts2 (by rw [hr]; rfl) hs.nend ?_
  rw [node_call { r with rest := ts2, at_ := t } (not2 (hw t (by simp)) wt q1) (by show ctl t.t = _; rw [wt]; exact q2) (by rw [known_of (hs.move ts2 t)]; show (names.any fun y => decide (y = t.t)) = true; rw [wt, List.any_eq_true]; exact ⟨nm, hmem, by simp⟩)]
  show Except.ok (add (cll t.t t.p) _) = _
  rw [wt]
 rw [if_neg e3] at hm
 by_cases e9 : k = 9
 ·subst e9
  rw [if_pos rfl] at hm
  obtain ⟨t, rfl, wt⟩ := tok1 hm
  obtain rfl : op = 0 := by omega
  obtain rfl : v = 0 := by omega
  obtain rfl : nm = e0 := un.resolve_left (by omega)
  obtain rfl : th = [] := ut.resolve_left (by decide)
  obtain rfl : el = [] := (ue.resolve_left (by omega)).resolve_left (by omega)
  obtain rfl : has = false := uh.resolve_left (by omega)
  have hi2 : i.2 = false := by
   cases h : i.2 with
   | false => rfl
   | true => exact absurd ⟨rfl, h⟩ hex
  refine ⟨ext t.p, t, by rw [ext, sm_mk]; simp [sml_nn], fun m => ?_⟩
  refine body_step e m r _ t ts2 (by rw [hr]; rfl) hs.nend ?_
  rw [node_ctl { r with rest := ts2, at_ := t } leave (not2 (hw t (by simp)) wt (by kernel_rfl)) (by show ctl t.t = _; rw [wt]; rfl)]
  unfold leave must
  simp only
  rw [if_pos (by rw [hs.ind, hi2]; rfl)]
  rfl
 rw [if_neg e9] at hm
 by_cases e4 : k = 4
 ·subst e4
  rw [if_pos rfl] at hm
  obtain rfl : op = 0 := by omega
  obtain rfl : v = 0 := by omega
  obtain rfl : nm = e0 := un.resolve_left (by omega)
  cases has with
  | false =>
   rw [if_neg (by decide)] at hm
   obtain rfl : el = [] := (ue.resolve_left (by omega)).resolve_left (fun c => by simp at c)
   obtain ⟨l', a, q, s1, b1⟩ := one_list ⟨4, 0, 0, e0, th, [], false, p⟩ wIf wThen 4 4 (by kernel_rfl) rfl (by kernel_rfl) rfl rfl rfl hL1 names i hN ht hv1 (hlt rfl) e ts1 hw hm r ts2 hr hs
   exact ⟨_, a, by rw [sm_mk, s1]; simp [sml_nn], b1⟩
  | true =>
   rw [if_pos rfl] at hm
   obtain ⟨l', l2', a, q, s1, s2, b1⟩ := two_list ⟨4, 0, 0, e0, th, el, true, p⟩ wIf wElse wThen 4 4 4 true turnElse (by kernel_rfl) rfl (by kernel_rfl) rfl (by kernel_rfl) rfl rfl rfl rfl rfl (fun o l q r' h' => by
    unfold turnElse must standIn
    simp only [h', List.getLast?_concat, List.dropLast_concat]
    rfl) hL1 hL2 names i hN ht he hv1 hv2 (hlt rfl) e ts1 hw hm r ts2 hr hs
   exact ⟨_, a, by rw [sm_mk, s1, s2]; simp, b1⟩
 rw [if_neg e4] at hm
 obtain rfl : has = false := uh.resolve_left e4
 obtain rfl : op = 0 := uo.resolve_left e1
 obtain rfl : v = 0 := uv.resolve_left e2
 obtain rfl : nm = e0 := un.resolve_left e3
 by_cases e6 : k = 6
 ·subst e6
  rw [if_pos rfl] at hm
  obtain ⟨l', l2', a, q, s1, s2, b1⟩ := two_list ⟨6, 0, 0, e0, th, el, false, p⟩ wBegin wWhile wRepeat 0 6 6 false turnWhile (by kernel_rfl) rfl (by kernel_rfl) rfl (by kernel_rfl) rfl rfl rfl rfl rfl (fun o l q r' h' => by
   unfold turnWhile must standIn
   simp only [h', List.getLast?_concat, List.dropLast_concat]
   rfl) hL1 hL2 names i hN ht he hv1 hv2 (hlt rfl) e ts1 hw hm r ts2 hr hs
  exact ⟨_, a, by rw [sm_mk, s1, s2]; simp, b1⟩
 rw [if_neg e6] at hm
 obtain rfl : el = [] := (ue.resolve_left e6).resolve_left (fun c => e4 c.1)
 by_cases e5 : k = 5
 ·subst e5
  rw [if_pos rfl] at hm
  obtain ⟨l', a, q, s1, b1⟩ := one_list ⟨5, 0, 0, e0, th, [], false, p⟩ wBegin wUntil 0 5 (by kernel_rfl) rfl (by kernel_rfl) rfl rfl rfl hL1 names i hN ht hv1 (hlt rfl) e ts1 hw hm r ts2 hr hs
  exact ⟨_, a, by rw [sm_mk, s1]; simp [sml_nn], b1⟩
 rw [if_neg e5] at hm
 by_cases e7 : k = 7
 ·subst e7
  rw [if_pos rfl] at hm
  obtain ⟨l', a, q, s1, b1⟩ := one_list ⟨7, 0, 0, e0, th, [], false, p⟩ wBegin wAgain 0 7 (by kernel_rfl) rfl (by kernel_rfl) rfl rfl rfl hL1 names i hN ht hv1 (hlt rfl) e ts1 hw hm r ts2 hr hs
  exact ⟨_, a, by rw [sm_mk, s1]; simp [sml_nn], b1⟩
 rw [if_neg e7] at hm
 obtain rfl : k = 8 := by omega
 rw [if_pos rfl] at hm
 obtain ⟨l', a, q, s1, b1⟩ := one_list ⟨8, 0, 0, e0, th, [], false, p⟩ wDo wLoop 8 8 (by kernel_rfl) rfl (by kernel_rfl) rfl rfl rfl hL1 names i hN ht hv1 (hlt rfl) e ts1 hw hm r ts2 hr hs
 exact ⟨_, a, by rw [sm_mk, s1]; simp [sml_nn], b1⟩
theorem cls_any (l : List Nd) : CLs l := cls_of l fun m _ => cn_any m
end Go.Proofs.YtdnklgceghllaaaGreatDoor.M
namespace Go.Proofs.YtdnklgceghllaaaGreatDoor.M
open Go.RowKit
open Go.Proofs
open Go.Proofs.YtdnklgceghllaaaGreatDoor.K (Tk kd)
open Go.Proofs.YtdnklgceghllaaaGreatDoor.Y (Nd Df Ps Bk e0)
open Go.Proofs.YtdnklgceghllaaaGreatDoor.D (Rd Er Re next must add name word define item numbered dataN bank itemsN finish ctl isW bodyN known PM)
open Go.Proofs.YtdnklgceghllaaaGreatDoor.R (ck cks isNm lk dfE dsE bkE chk)
set_option linter.unusedVariables false
set_option linter.unusedSimpArgs false
set_option maxRecDepth 100000
theorem next_ok (e : Ps) (r : Rd) (t : Tk) (ts : List Tk) (h : r.rest = t :: ts) : next e r = .ok { r with at_ := t, rest := ts } := by unfold next; rw [h]
theorem name_ok (e : Ps) (r : Rd) (t : Tk) (ts : List Tk) (h : r.rest = t :: ts) (hn : isNm t.t = true) (hk : known r t.t = false) : name e r = .ok { r with at_ := t, rest := ts } := by
 unfold name
 rw [next_ok e r t ts h]
 show (must (isNm t.t) t 101 >>= fun _ => must (!known r t.t) t 102 >>= fun _ => Except.ok { r with at_ := t, rest := ts }) = _
 rw [hn, hk]
 rfl
theorem addL_body : ∀ (l : List Nd) (r : Rd), r.opn = [] -> addL l r = { r with body := r.body ++ l }
 | [], r, _ => by simp [addL]
 | n :: l, r, h => by
  have e : add n r = { r with body := r.body ++ [n] } := by unfold add; rw [h]; rfl
  rw [addL_cons, e, addL_body l { r with body := r.body ++ [n] } h]
  simp
def vd (d : Df) : Bool := decide (0 <= d.v) && (decide (d.v <= 65535) && vns d.body)
theorem tok_app {ts : List Tk} {a b : List ByteArray} (h : ts.map (·.t) = a ++ b) : ∃ x y, ts = x ++ y /\ x.map (·.t) = a /\ y.map (·.t) = b := by
 obtain ⟨x, y, e, hx, hy⟩ := List.map_eq_append_iff.1 h
 exact ⟨x, y, e, hx, hy⟩
theorem item_def (e : Ps) (d : Df) (ns : List ByteArray) (hN : ∀ s ∈ ns, isNm s = true) (hd : dfE ns d = 0) (hv : vd d = true) (ts1 : List Tk) (hw : ∀ t ∈ ts1, WfT t) (hm : ts1.map (·.t) = dw d) (r : Rd) (ts2 : List Tk) (hr : r.rest = ts1 ++ ts2) (hns : r.defs.map (·.nm) = ns) :
  ∃ d' r1, smd d d' = true /\ d'.nm = d.nm /\ item (lk PM) e r = .ok r1 /\ r1.rest = ts2 /\ r1.defs = r.defs ++ [d'] /\ r1.banks = r.banks := by
 obtain ⟨f1, f2, f3, f4, f5⟩ := dfE_is hd
 unfold vd at hv
 simp only [Bool.and_eq_true, decide_eq_true_eq] at hv
 obtain ⟨v0, v1, v2⟩ := hv
 have hkn : ∀ (r' : Rd), r'.defs = r.defs -> known r' d.nm = false := fun r' h => by
  unfold known
  rw [h, hns]
  exact f3
 unfold dw at hm
 obtain ⟨k, nm, v, body, p⟩ := d
 simp only at *
 unfold R.fieldsF at f1
 by_cases e1 : k = 1
 ·subst e1
  simp only [if_true] at hm f1
  obtain rfl : v = 0 := by simpa using f1
  have hm' : ts1.map (·.t) = [wColon] ++ ([nm] ++ nws body ++ [wSemi]) := by rw [hm]; simp
  obtain ⟨x, y, rfl, hx, hy⟩ := tok_app hm'
  obtain ⟨t0, rfl, w0⟩ := tok1 hx
  obtain ⟨t1, tb, t9, rfl, w1, wb, w9⟩ := tok3 hy
  have hr0 : r.rest = t0 :: (t1 :: (tb ++ (t9 :: ts2))) := by rw [hr]; simp
  have hk0 : ¬ t0.k = 2 := not2 (hw t0 (by simp)) w0 (by kernel_rfl)
  obtain ⟨l', a, s1, b1⟩ := cls_any body ns (0, false) hN f5 v2 (by decide) e tb (fun t ht => hw t (by simp [ht])) wb { r with rest := tb ++ (t9 :: ts2), at_ := t1, body := [], opn := [], ended := false } (t9 :: ts2) rfl ⟨rfl, rfl, rfl, hns⟩
  refine ⟨⟨1, nm, 0, l', t1.p⟩, { r with rest := ts2, at_ := t9, body := [] ++ l', opn := [], ended := true, defs := r.defs ++ [⟨1, nm, 0, l', t1.p⟩] }, by simp [smd, s1], rfl, ?_, rfl, rfl, rfl⟩
  unfold item
  rw [next_ok e r t0 _ hr0]
  show (if (t0.k == 2) = true then _ else if isW t0.t [58] = true then _ else _) = _
  rw [if_neg (by simpa using hk0), w0, if_pos (by kernel_rfl)]
  unfold word
  rw [name_ok e _ t1 _ (by rfl) (by rw [w1]; exact f2) (by rw [w1]; exact hkn _ rfl)]
  show (bodyN (lk PM) e ((tb ++ (t9 :: ts2)).length + 1) { r with rest := tb ++ (t9 :: ts2), at_ := t1, body := [], opn := [], ended := false } >>= _) = _
  have hfu : (tb ++ (t9 :: ts2)).length + 1 = (ts2.length + 1 + 1) + tb.length := by simp only [List.length_append, List.length_cons]; omega
  rw [hfu, b1, addL_body l' _ rfl]
  have hs : bodyN (lk PM) e (ts2.length + 1 + 1) { r with rest := t9 :: ts2, at_ := a, body := [] ++ l', opn := [], ended := false } = bodyN (lk PM) e (ts2.length + 1) { r with rest := ts2, at_ := t9, body := [] ++ l', opn := [], ended := true } := by
   refine body_step e _ _ _ t9 ts2 rfl rfl ?_
   rw [node_ctl _ finish (not2 (hw t9 (by simp)) w9 (by kernel_rfl)) (by show ctl t9.t = _; rw [w9]; rfl)]
   rfl
  simp only at hs ⊢
  rw [hs, bodyN, if_pos rfl]
  show Except.ok (define 1 t1 0 ([] ++ l') _) = _
  unfold define
  rw [w1]
  rfl
 rw [if_neg e1] at hm f1
 by_cases e2 : k = 2
 ·subst e2
  simp only [if_true, true_or] at hm f1
  obtain rfl : body = [] := by simpa using f1
  have hm' : ts1.map (·.t) = [dcm v] ++ [wConst] ++ [nm] := by rw [hm]; simp
  obtain ⟨t0, tb, t2, rfl, w0, wb, w2⟩ := tok3 hm'
  obtain ⟨t1, rfl, w1⟩ := tok1 wb
  have hr0 : r.rest = t0 :: t1 :: t2 :: ts2 := by rw [hr]; simp
  have hw0 := hw t0 (by simp)
  have hk0 : t0.k = 2 := by rw [hw0.1, w0]; exact dcm_kd v ⟨v0, v1⟩
  have hv0 : t0.v = v := by rw [hw0.2, w0]; exact (dcm_num v ⟨v0, v1⟩).1
  refine ⟨⟨2, nm, v, [], t2.p⟩, { r with rest := ts2, at_ := t2, defs := r.defs ++ [⟨2, nm, v, [], t2.p⟩] }, by simp [smd, sml_nn], rfl, ?_, rfl, rfl, rfl⟩
  unfold item
  rw [next_ok e r t0 _ hr0]
  show (if (t0.k == 2) = true then numbered e t0 _ else _) = _
  rw [if_pos (by rw [hk0]; rfl)]
  unfold numbered
  rw [next_ok e _ t1 (t2 :: ts2) (by rfl)]
  show (if isW t1.t [99, 111, 110, 115, 116, 97, 110, 116] = true then _ else _) = _
  rw [w1, if_pos (by kernel_rfl), name_ok e _ t2 _ (by rfl) (by rw [w2]; exact f2) (by rw [w2]; exact hkn _ rfl)]
  show Except.ok (define 2 t2 t0.v [] _) = _
  unfold define
  rw [w2, hv0]
 rw [if_neg e2] at hm
 obtain ⟨rfl, rfl⟩ : k = 3 /\ body = [] := by
  by_cases e3 : k = 3
  ·rw [if_pos (.inr e3)] at f1
   exact ⟨e3, by simpa using f1⟩
  ·rw [if_neg (by omega)] at f1
   cases f1
 by_cases ev : v = 2
 ·subst ev
  rw [if_pos rfl] at hm
  have hm' : ts1.map (·.t) = [wVar] ++ [nm] := by rw [hm]; simp
  obtain ⟨x, y, rfl, hx, hy⟩ := tok_app hm'
  obtain ⟨t0, rfl, w0⟩ := tok1 hx
  obtain ⟨t2, rfl, w2⟩ := tok1 hy
  have hr0 : r.rest = t0 :: t2 :: ts2 := by rw [hr]; simp
  have hk0 : ¬ t0.k = 2 := not2 (hw t0 (by simp)) w0 (by kernel_rfl)
  refine ⟨⟨3, nm, 2, [], t2.p⟩, { r with rest := ts2, at_ := t2, defs := r.defs ++ [⟨3, nm, 2, [], t2.p⟩] }, by simp [smd, sml_nn], rfl, ?_, rfl, rfl, rfl⟩
  unfold item
  rw [next_ok e r t0 _ hr0]
  show (if (t0.k == 2) = true then _ else if isW t0.t [58] = true then _ else if isW t0.t [118, 97, 114, 105, 97, 98, 108, 101] = true then _ else _) = _
  rw [if_neg (by simpa using hk0), w0, if_neg (by decide), if_pos (by kernel_rfl), name_ok e _ t2 _ (by rfl) (by rw [w2]; exact f2) (by rw [w2]; exact hkn _ rfl)]
  show Except.ok (define 3 t2 2 [] _) = _
  unfold define
  rw [w2]
 rw [if_neg ev] at hm
 have hm' : ts1.map (·.t) = [dcm v] ++ [wBuf] ++ [nm] := by rw [hm]; simp
 obtain ⟨t0, tb, t2, rfl, w0, wb, w2⟩ := tok3 hm'
 obtain ⟨t1, rfl, w1⟩ := tok1 wb
 have hr0 : r.rest = t0 :: t1 :: t2 :: ts2 := by rw [hr]; simp
 have hw0 := hw t0 (by simp)
 have hk0 : t0.k = 2 := by rw [hw0.1, w0]; exact dcm_kd v ⟨v0, v1⟩
 have hv0 : t0.v = v := by rw [hw0.2, w0]; exact (dcm_num v ⟨v0, v1⟩).1
 refine ⟨⟨3, nm, v, [], t2.p⟩, { r with rest := ts2, at_ := t2, defs := r.defs ++ [⟨3, nm, v, [], t2.p⟩] }, by simp [smd, sml_nn], rfl, ?_, rfl, rfl, rfl⟩
 unfold item
 rw [next_ok e r t0 _ hr0]
 show (if (t0.k == 2) = true then numbered e t0 _ else _) = _
 rw [if_pos (by rw [hk0]; rfl)]
 unfold numbered
 rw [next_ok e _ t1 (t2 :: ts2) (by rfl)]
 show (if isW t1.t [99, 111, 110, 115, 116, 97, 110, 116] = true then _ else if isW t1.t [98, 117, 102, 102, 101, 114] = true then _ else _) = _
 rw [w1, if_neg (by decide), if_pos (by kernel_rfl)]
 show (must (decide (t0.v <= 16384)) t0 106 >>= _) = _
 rw [hv0]
 unfold must
 rw [if_pos (by rw [decide_eq_true_eq]; omega)]
 show (name e _ >>= _) = _
 rw [name_ok e _ t2 _ (by rfl) (by rw [w2]; exact f2) (by rw [w2]; exact hkn _ rfl)]
 show Except.ok (define 3 t2 v [] _) = _
 unfold define
 rw [w2]
end Go.Proofs.YtdnklgceghllaaaGreatDoor.M
namespace Go.Proofs.YtdnklgceghllaaaGreatDoor.M
open Go.RowKit
open Go.Proofs
open Go.Proofs.YtdnklgceghllaaaGreatDoor.K (Tk kd)
open Go.Proofs.YtdnklgceghllaaaGreatDoor.Y (Nd Df Ps Bk e0)
open Go.Proofs.YtdnklgceghllaaaGreatDoor.D (Rd Er Re next must name item numbered dataN bank itemsN isW known PM rd0 rres read_is)
open Go.Proofs.YtdnklgceghllaaaGreatDoor.R (isNm lk dfE dsE bkE chk)
set_option linter.unusedVariables false
set_option linter.unusedSimpArgs false
set_option maxRecDepth 100000
theorem ok_bind {α β : Type} (a : α) (f : α -> Except Er β) : ((Except.ok a : Except Er α) >>= f) = f a := rfl
theorem data_ok (e : Ps) : ∀ (l d : List UInt8) (f : Nat) (ts1 : List Tk) (r : Rd) (ts2 : List Tk), (∀ t ∈ ts1, WfT t) -> ts1.map (·.t) = dws l ++ [wShut] -> r.rest = ts1 ++ ts2 -> d.length + l.length <= 16384 -> l.length + 1 <= f -> ∃ a, dataN e f d r = .ok (d ++ l, { r with rest := ts2, at_ := a })
 | [], d, f + 1, ts1, r, ts2, hw, hm, hr, hd, hf => by
  obtain ⟨t, rfl, wt⟩ := tok1 (by simpa [dws] using hm)
  refine ⟨t, ?_⟩
  unfold dataN
  rw [next_ok e r t ts2 (by rw [hr]; rfl)]
  show (if isW t.t [125] = true then _ else _) = _
  rw [wt, if_pos (by kernel_rfl), List.append_nil]
 | x :: l, d, f + 1, ts1, r, ts2, hw, hm, hr, hd, hf => by
  have hm' : ts1.map (·.t) = [dcm (x.toNat : Int)] ++ (dws l ++ [wShut]) := by rw [hm]; rfl
  obtain ⟨y, ts, rfl, hy, hz⟩ := tok_app hm'
  obtain ⟨t, rfl, wt⟩ := tok1 hy
  have hx := x.toNat_lt
  have hr16 : 0 <= (x.toNat : Int) /\ (x.toNat : Int) <= 65535 := by omega
  have hwt := hw t (by simp)
  have hk : t.k = 2 := by rw [hwt.1, wt]; exact dcm_kd _ hr16
  have hv : t.v = (x.toNat : Int) := by rw [hwt.2, wt]; exact (dcm_num _ hr16).1
  have hnw : isW t.t [125] = false := by
   unfold isW
   rw [wt, beq_eq_false_iff_ne]
   intro c
   have h1 := dcm_kd _ hr16
   rw [c] at h1
   exact absurd h1 (by decide)
  simp only [List.length_cons] at hd hf
  obtain ⟨a, ih⟩ := data_ok e l (d ++ [x]) f ts { r with rest := ts ++ ts2, at_ := t } ts2 (fun t ht => hw t (by simp [ht])) hz rfl (by rw [List.length_append]; simp only [List.length_cons, List.length_nil]; omega) (by omega)
  refine ⟨a, ?_⟩
  unfold dataN
  rw [next_ok e r t (ts ++ ts2) (by rw [hr]; rfl)]
  show (if isW t.t [125] = true then _ else (must (t.k == 2 && decide (t.v <= 255) && decide (d.length < 16384)) t 106 >>= _)) = _
  rw [if_neg (by rw [hnw]; decide), hk, hv]
  unfold must
  rw [if_pos (by simp only [beq_self_eq_true, Bool.true_and, Bool.and_eq_true, decide_eq_true_eq]; omega)]
  show dataN e f (d ++ [UInt8.ofNat ((x.toNat : Int)).toNat]) _ = _
  have hb : UInt8.ofNat ((x.toNat : Int)).toNat = x := by
   rw [Int.toNat_natCast, UInt8.ofNat_toNat]
  rw [hb, ih]
  simp
 | _, _, 0, _, _, _, _, _, _, _, hf => absurd hf (by omega)
theorem item_bank (e : Ps) (b : Bk) (hb : 0 <= b.1 /\ b.1 < 16 /\ b.2.length <= 16384) (ts1 : List Tk) (hw : ∀ t ∈ ts1, WfT t) (hm : ts1.map (·.t) = bw b) (r : Rd) (ts2 : List Tk) (hr : r.rest = ts1 ++ ts2) (hno : (r.banks.any fun x => x.1 == b.1) = false) :
  ∃ r1, item (lk PM) e r = .ok r1 /\ r1.rest = ts2 /\ r1.defs = r.defs /\ r1.banks = r.banks ++ [b] := by
 obtain ⟨n, l⟩ := b
 obtain ⟨h0, h1, h2⟩ := hb
 simp only at h0 h1 h2 hno
 have hwr : IntKind.u16.wrap n = n := by rw [IntKind.wrap_u16]; omega
 have hm' : ts1.map (·.t) = [dcm n] ++ ([wBank] ++ ([wOpen] ++ (dws l ++ [wShut]))) := by
  rw [hm]
  show [dcm (IntKind.u16.wrap n), wBank, wOpen] ++ dws l ++ [wShut] = _
  rw [hwr]
  simp
 obtain ⟨y0, z0, rfl, hy0, hz0⟩ := tok_app hm'
 obtain ⟨t0, rfl, w0⟩ := tok1 hy0
 obtain ⟨y1, z1, rfl, hy1, hz1⟩ := tok_app hz0
 obtain ⟨t1, rfl, w1⟩ := tok1 hy1
 obtain ⟨y2, ts, rfl, hy2, hz2⟩ := tok_app hz1
 obtain ⟨t2, rfl, w2⟩ := tok1 hy2
 have hr0 : r.rest = t0 :: t1 :: t2 :: (ts ++ ts2) := by rw [hr]; simp
 have hw0 := hw t0 (by simp)
 have hk0 : t0.k = 2 := by rw [hw0.1, w0]; exact dcm_kd n (by omega)
 have hv0 : t0.v = n := by rw [hw0.2, w0]; exact (dcm_num n (by omega)).1
 obtain ⟨a, hd⟩ := data_ok e l [] ((ts ++ ts2).length + 1) ts { r with rest := ts ++ ts2, at_ := t2 } ts2 (fun t ht => hw t (by simp [ht])) hz2 rfl (by simpa using h2) (by
  have := congrArg List.length hz2
  simp only [List.length_map, List.length_append, dws, List.length_cons, List.length_nil] at this ⊢
  omega)
 refine ⟨{ r with rest := ts2, at_ := a, banks := r.banks ++ [(n, l)] }, ?_, rfl, rfl, rfl⟩
 unfold item
 rw [next_ok e r t0 _ hr0]
 show (if (t0.k == 2) = true then numbered e t0 _ else _) = _
 rw [if_pos (by rw [hk0]; rfl)]
 unfold numbered
 rw [next_ok e _ t1 (t2 :: (ts ++ ts2)) (by rfl)]
 show (if isW t1.t [99, 111, 110, 115, 116, 97, 110, 116] = true then _ else if isW t1.t [98, 117, 102, 102, 101, 114] = true then _ else if isW t1.t [98, 97, 110, 107] = true then bank e t0 _ else _) = _
 rw [w1, if_neg (by decide), if_neg (by decide), if_pos (by kernel_rfl)]
 unfold bank must
 rw [hv0, if_pos (by rw [decide_eq_true_eq]; omega)]
 show ((if (!(r.banks.any fun b => b.1 == n)) = true then Except.ok () else _) >>= _) = _
 rw [hno, if_pos (show (!false) = true from rfl), ok_bind, next_ok e _ t2 (ts ++ ts2) (by rfl)]
 rw [ok_bind]
 show ((if isW t2.t [123] = true then Except.ok () else _) >>= _) = _
 rw [w2, if_pos (by kernel_rfl), ok_bind]
 show (dataN e ((ts ++ ts2).length + 1) [] _ >>= _) = _
 rw [hd]
 rfl
theorem smds_cons (a b : Df) (l l' : List Df) : smds (a :: l) (b :: l') = (smd a b && smds l l') := by
 unfold smds
 rw [List.length_cons, List.length_cons, List.zip_cons_cons, List.all_cons]
 have : ((l.length + 1 == l'.length + 1) : Bool) = (l.length == l'.length) := by
  by_cases h : l.length = l'.length
  ·simp [h]
  ·simp [h]
 rw [this]
 cases (l.length == l'.length) <;> cases (smd a b) <;> simp
theorem items_defs (e : Ps) : ∀ (ds : List Df) (ns : List ByteArray) (n : Nat) (ts1 : List Tk) (r : Rd) (ts2 : List Tk), (∀ s ∈ ns, isNm s = true) -> dsE ns ds = 0 -> ds.all vd = true -> (∀ t ∈ ts1, WfT t) -> ts1.map (·.t) = ds.flatMap dw -> r.rest = ts1 ++ ts2 -> r.defs.map (·.nm) = ns -> r.rest.length + 1 <= n ->
  ∃ ds' r1 n', itemsN (lk PM) e n r = itemsN (lk PM) e n' r1 /\ r1.rest = ts2 /\ r1.rest.length + 1 <= n' /\ r1.defs = r.defs ++ ds' /\ r1.banks = r.banks /\ smds ds ds' = true
 | [], ns, n, ts1, r, ts2, hN, hd, hv, hw, hm, hr, hns, hn => by
  have : ts1 = [] := by simpa using hm
  subst this
  exact ⟨[], r, n, rfl, by rw [hr]; rfl, hn, by simp, rfl, rfl⟩
 | d :: ds, ns, n, ts1, r, ts2, hN, hd, hv, hw, hm, hr, hns, hn => by
  obtain ⟨h1, h2⟩ := dsE_cons hd
  rw [List.all_cons, Bool.and_eq_true] at hv
  rw [List.flatMap_cons] at hm
  obtain ⟨ta, tb, rfl, ha, hb⟩ := tok_app hm
  obtain ⟨d', r1, s1, s2, i1, q1, q2, q3⟩ := item_def e d ns hN h1 hv.1 ta (fun t ht => hw t (by simp [ht])) ha r (tb ++ ts2) (by rw [hr, List.append_assoc]) hns
  have hta : 1 <= ta.length := by
   have := congrArg List.length ha
   rw [List.length_map] at this
   have hne := dw_ne d
   have := List.length_pos_iff.2 hne
   omega
  obtain ⟨m, rfl⟩ : ∃ m, n = m + 1 := ⟨n - 1, by omega⟩
  have hrl : r.rest.length = ta.length + (tb.length + ts2.length) := by rw [hr]; simp only [List.length_append]; omega
  have hr1l : r1.rest.length = tb.length + ts2.length := by rw [q1, List.length_append]
  obtain ⟨ds', r2, n', e1, p1, p2, p3, p4, p5⟩ := items_defs e ds (ns ++ [d.nm]) m tb r1 ts2 (fun s hs => by
   rcases List.mem_append.1 hs with hs | hs
   ·exact hN s hs
   ·rw [List.mem_singleton] at hs; rw [hs]; exact (dfE_is h1).2.1) h2 hv.2 (fun t ht => hw t (by simp [ht])) hb q1 (by rw [q2, List.map_append, hns]; simp [s2]) (by omega)
  refine ⟨d' :: ds', r2, n', ?_, p1, p2, by rw [p3, q2]; simp, by rw [p4, q3], by rw [smds_cons, s1, p5]; rfl⟩
  rw [itemsN, if_neg (by rw [List.isEmpty_iff]; intro c; rw [c] at hrl; simp at hrl; omega), i1]
  exact e1
theorem items_banks (e : Ps) : ∀ (bs : List Bk) (z : Int) (n : Nat) (ts1 : List Tk) (r : Rd), bkE z bs = 0 -> (∀ t ∈ ts1, WfT t) -> ts1.map (·.t) = bs.flatMap bw -> r.rest = ts1 -> (∀ b ∈ r.banks, b.1 <= z) -> r.rest.length + 1 <= n ->
  ∃ r1, itemsN (lk PM) e n r = .ok r1 /\ r1.defs = r.defs /\ r1.banks = r.banks ++ bs
 | [], z, n, ts1, r, hb, hw, hm, hr, hz, hn => by
  have : ts1 = [] := by simpa using hm
  subst this
  exact ⟨r, D.itemsN_end _ e n r hr, rfl, by simp⟩
 | b :: bs, z, n, ts1, r, hb, hw, hm, hr, hz, hn => by
  obtain ⟨h1, h2, h3, h4, h5⟩ := bkE_cons hb
  rw [List.flatMap_cons] at hm
  obtain ⟨ta, tb, rfl, ha, hb2⟩ := tok_app hm
  have hno : (r.banks.any fun x => x.1 == b.1) = false := by
   rw [List.any_eq_false]
   intro x hx
   have := hz x hx
   simp only [beq_iff_eq]
   omega
  obtain ⟨r1, i1, q1, q2, q3⟩ := item_bank e b ⟨h1, h2, h3⟩ ta (fun t ht => hw t (by simp [ht])) ha r tb hr hno
  have hta : 1 <= ta.length := by
   have := congrArg List.length ha
   rw [List.length_map] at this
   have := List.length_pos_iff.2 (bw_ne b)
   omega
  obtain ⟨m, rfl⟩ : ∃ m, n = m + 1 := ⟨n - 1, by omega⟩
  have hrl : r.rest.length = ta.length + tb.length := by rw [hr, List.length_append]
  obtain ⟨r2, e1, p1, p2⟩ := items_banks e bs b.1 m tb r1 h5 (fun t ht => hw t (by simp [ht])) hb2 q1 (fun x hx => by
   rw [q3] at hx
   rcases List.mem_append.1 hx with hx | hx
   ·have := hz x hx; omega
   ·rw [List.mem_singleton] at hx; rw [hx]; omega) (by rw [q1]; omega)
  refine ⟨r2, ?_, by rw [p1, q2], by rw [p2, q3]; simp⟩
  rw [itemsN, if_neg (by rw [List.isEmpty_iff]; intro c; rw [c] at hrl; simp at hrl; omega), i1]
  exact e1
theorem bk_sorted : ∀ (bs : List Bk) (z : Int), bkE z bs = 0 -> bs.Pairwise (fun a b => a.1 <= b.1) /\ ∀ b ∈ bs, z < b.1
 | [], z, _ => ⟨List.Pairwise.nil, fun b hb => by cases hb⟩
 | b :: bs, z, h => by
  obtain ⟨h1, h2, h3, h4, h5⟩ := bkE_cons h
  obtain ⟨p1, p2⟩ := bk_sorted bs b.1 h5
  refine ⟨List.Pairwise.cons (fun x hx => by have := p2 x hx; omega) p1, fun x hx => ?_⟩
  rcases List.mem_cons.1 hx with rfl | hx
  ·exact h4
  ·have := p2 x hx; omega
theorem main_same : ∀ (ds ds' : List Df), smds ds ds' = true -> ds.any R.isMain = ds'.any R.isMain
 | [], [], _ => rfl
 | [], _ :: _, h => by cases h
 | _ :: _, [], h => by cases h
 | d :: ds, d' :: ds', h => by
  rw [smds_cons, Bool.and_eq_true] at h
  rw [List.any_cons, List.any_cons, main_same ds ds' h.2]
  have h1 := h.1
  unfold smd at h1
  simp only [Bool.and_eq_true, beq_iff_eq, decide_eq_true_eq] at h1
  unfold R.isMain
  rw [h1.1, h1.2.1]
theorem read_words (e : Ps) (ds : List Df) (bs : List Bk) (hc : chk ds bs = 0) (hv : ds.all vd = true) (ts : List Tk) (hw : ∀ t ∈ ts, WfT t) (hm : ts.map (·.t) = ds.flatMap dw ++ bs.flatMap bw) :
  ∃ ds', D.read (lk PM) e ts = .ok (ds', bs) /\ smds ds ds' = true := by
 obtain ⟨c1, c2, c3⟩ := chk_is hc
 obtain ⟨ta, tb, rfl, ha, hb⟩ := tok_app hm
 obtain ⟨ds', r1, n', e1, p1, p2, p3, p4, p5⟩ := items_defs e ds [] ((ta ++ tb).length + 1) ta (rd0 (ta ++ tb)) tb (fun s hs => by cases hs) c1 hv (fun t ht => hw t (by simp [ht])) ha rfl rfl (Nat.le_refl _)
 obtain ⟨r2, e2, q1, q2⟩ := items_banks e bs (-1) n' tb r1 c2 (fun t ht => hw t (by simp [ht])) hb p1 (fun b hb => by rw [p4] at hb; cases hb) p2
 refine ⟨ds', ?_, p5⟩
 rw [read_is, e1, e2]
 show (if r2.defs.any R.isMain = true then _ else _) = _
 have hd : r2.defs = ds' := by rw [q1, p3]; rfl
 have hbk : r2.banks = bs := by rw [q2, p4]; rfl
 rw [hd, hbk, <- main_same ds ds' p5, if_pos c3]
 have hsrt : bs.mergeSort (fun a b => decide (a.1 <= b.1)) = bs := by
  apply List.mergeSort_of_pairwise
  exact (bk_sorted bs (-1) c2).1.imp (fun h => by simpa using h)
 rw [hsrt]
end Go.Proofs.YtdnklgceghllaaaGreatDoor.M
namespace Go.Proofs.YtdnklgceghllaaaGreatDoor.K
open Go.Proofs.YtdnklgceghllaaaGreatDoor
open Go.Proofs.YtdnklgceghllaaaGreatDoor.T (numE numC)
set_option linter.unusedVariables false
structure Gd (w : List UInt8) : Prop where
 ne : w ≠ []
 seen : ∀ c ∈ w, T.seen c.toNat = true
 n1 : w ≠ [92]
 n2 : w ≠ [40]
 le : w.length <= 31
 num : numE w ≠ 21
theorem wl_seen (l : List UInt8) : ∀ c ∈ l.take (wl l), T.seen c.toNat = true := by
 induction l with
 | nil => intro c h; simp at h
 | cons x t ih =>
  unfold wl
  split
  ·intro c h
   rw [List.take_succ_cons] at h
   rcases List.mem_cons.1 h with rfl | h
   ·assumption
   ·exact ih c h
  ·intro c h; simp at h
theorem wl_word (w r : List UInt8) (hw : ∀ c ∈ w, T.seen c.toNat = true) (hr : r = [] \/ ∃ c t, r = c :: t /\ T.seen c.toNat = false) : wl (w ++ r) = w.length := by
 induction w with
 | nil =>
  rcases hr with rfl | ⟨c, t, rfl, hc⟩
  ·rfl
  ·simp [wl, hc]
 | cons x t ih =>
  have hx := hw x (List.mem_cons_self ..)
  rw [List.cons_append, wl, if_pos hx, ih (fun c h => hw c (List.mem_cons_of_mem _ h))]; rfl
theorem sc_good (l : List UInt8) : ∀ q ∈ (sc l).1, Gd (wd l q.1 q.2) := by
 obtain ⟨i, a, hA, hP, h⟩ := At.ends l (P := fun i a => ∀ q ∈ a, Gd (wd l q.1 q.2)) (by simp) (fun i j a _ h _ _ => h) (fun i j a hA h hi e => by
  have hs := sp_wo l i j hi e
  intro q hq
  rcases List.mem_append.1 hq with hq | hq
  ·exact h q hq
  ·simp at hq; subst hq
   refine ⟨wd_ne l i j hs.2.1 hs.1, ?_, hs.2.2.2.1, hs.2.2.2.2.1, by rw [wd_len l i j hs.2.1]; exact hs.2.2.2.2.2.1, hs.2.2.2.2.2.2⟩
   have e : wd l i j = (l.drop i).take (wl (l.drop i)) := by unfold wd; rw [hs.2.2.1]; unfold wend; rw [Nat.add_sub_cancel_left]
   show ∀ c ∈ wd l i j, _
   rw [e]; exact wl_seen _)
 rcases h with ⟨_, e⟩ | ⟨x, _, _, e⟩ <;> rw [e] <;> exact hP
theorem drop_at (p x : List UInt8) : (p ++ x).drop p.length = x := by simp
theorem wd_mid (p w r : List UInt8) : wd (p ++ (w ++ r)) p.length (p.length + w.length) = w := by
 unfold wd; rw [drop_at, Nat.add_sub_cancel_left]; simp
theorem sp_word (p w r : List UInt8) (hw : Gd w) (hr : r = [] \/ ∃ c t, r = c :: t /\ T.seen c.toNat = false) : sp (p ++ (w ++ r)) p.length = .ok (.inr (p.length + w.length)) := by
 have h1 : wend (p ++ (w ++ r)) p.length = p.length + w.length := by unfold wend; rw [drop_at, wl_word w r hw.seen hr]
 have h2 : 0 < w.length := List.length_pos_iff.2 hw.ne
 unfold sp
 rw [h1, if_neg (by omega)]
 unfold spW
 rw [wd_mid, if_neg hw.n1, if_neg hw.n2, if_neg (by have := hw.le; omega), if_neg hw.num]
theorem getD_at (p : List UInt8) (c : UInt8) (r : List UInt8) : (p ++ (c :: r)).getD p.length 0 = c := by
 rw [List.getD_eq_getElem?_getD, List.getElem?_append_right (Nat.le_refl _), Nat.sub_self]; rfl
theorem sp_blank (p : List UInt8) (c : UInt8) (r : List UInt8) (hc : bk c.toNat = true) (hs : T.seen c.toNat = false) : sp (p ++ (c :: r)) p.length = .ok (.inl (p.length + 1)) := by
 have h1 : wend (p ++ (c :: r)) p.length = p.length := by unfold wend; rw [drop_at]; simp [wl, hs]
 unfold sp
 rw [if_pos h1, getD_at, if_pos hc]
structure Sep (s : List UInt8) : Prop where
 hd : ∃ c t, s = c :: t /\ T.seen c.toNat = false
 skip : ∀ p r a, At (p ++ (s ++ r)) p.length a -> At (p ++ (s ++ r)) (p.length + s.length) a
theorem step_blank (p r : List UInt8) (c : UInt8) (a : List (Nat × Nat)) (hc : bk c.toNat = true) (hs : T.seen c.toNat = false) (h : At (p ++ (c :: r)) p.length a) : At (p ++ (c :: r)) (p.length + 1) a :=
 h.to (by simp) (sp_blank p c r hc hs)
theorem sep_one : Sep [32] := ⟨⟨32, [], rfl, by decide⟩, fun p r a h => step_blank p r 32 a (by decide) (by decide) h⟩
end Go.Proofs.YtdnklgceghllaaaGreatDoor.K
namespace Go.Proofs.YtdnklgceghllaaaGreatDoor.M
open Go.RowKit
open Go.Proofs
open Go.Proofs.YtdnklgceghllaaaGreatDoor.K (Tk kd tk ans sc At wd Gd Sep sp_word sep_one ext_list)
open Go.Proofs.YtdnklgceghllaaaGreatDoor.Y (Nd Df Ps Bk e0)
open Go.Proofs.YtdnklgceghllaaaGreatDoor.D (PM)
open Go.Proofs.YtdnklgceghllaaaGreatDoor.R (ck cks isNm lk dfE dsE bkE chk)
set_option linter.unusedVariables false
set_option linter.unusedSimpArgs false
set_option maxRecDepth 100000
def Lf : List (List UInt8 × List UInt8) -> List UInt8
  | [] => []
  | x :: r => x.1 ++ (x.2 ++ Lf r)
theorem lf_app (a b : List (List UInt8 × List UInt8)) : Lf (a ++ b) = Lf a ++ Lf b := by
  induction a with
  | nil => rfl
  | cons x a ih => rw [List.cons_append, Lf, Lf, ih]; simp
theorem lf_scan : ∀ (ps : List (List UInt8 × List UInt8)) (p : List UInt8) (a : List (Nat × Nat)), (∀ x ∈ ps, Gd x.1 /\ Sep x.2) -> At (p ++ Lf ps) p.length a -> ∃ a', sc (p ++ Lf ps) = (a ++ a', (p ++ Lf ps).length, 0) /\ a'.map (fun q => wd (p ++ Lf ps) q.1 q.2) = ps.map (·.1)
  | [], p, a, _, h => by
    have e : p ++ Lf [] = p := by simp [Lf]
    rw [e] at h ⊢
    exact ⟨[], by rw [List.append_nil]; exact h.fin (Nat.le_refl _), rfl⟩
  | (w, s) :: ps, p, a, hg, h => by
    obtain ⟨hw, hs⟩ := hg (w, s) (List.mem_cons_self ..)
    simp only at hw hs
    have e0 : p ++ Lf ((w, s) :: ps) = p ++ (w ++ (s ++ Lf ps)) := rfl
    rw [e0] at h ⊢
    obtain ⟨c, t, hc, hcs⟩ := hs.hd
    have hsp := sp_word p w (s ++ Lf ps) hw (.inr ⟨c, t ++ Lf ps, by rw [hc]; rfl, hcs⟩)
    have hp0 : 0 < w.length := List.length_pos_iff.2 hw.ne
    have h2 := h.wo (by simp only [List.length_append]; omega) hsp
    have hwd := K.wd_mid p w (s ++ Lf ps)
    have e2 : p ++ (w ++ (s ++ Lf ps)) = (p ++ w) ++ (s ++ Lf ps) := by simp
    have el2 : p.length + w.length = (p ++ w).length := by simp only [List.length_append]
    rw [e2, el2] at h2 hwd
    have h3 := hs.skip (p ++ w) (Lf ps) _ h2
    have e3 : (p ++ w) ++ (s ++ Lf ps) = (p ++ w ++ s) ++ Lf ps := by simp
    have el3 : (p ++ w).length + s.length = (p ++ w ++ s).length := by simp only [List.length_append]
    rw [e3] at h3 hwd
    rw [el3] at h3
    obtain ⟨a', h4, h5⟩ := lf_scan ps (p ++ w ++ s) _ (fun x hx => hg x (List.mem_cons_of_mem _ hx)) h3
    refine ⟨(p.length, (p ++ w).length) :: a', ?_, ?_⟩
    · rw [e2, e3, h4]; simp
    · rw [e2, e3, List.map_cons, h5, hwd]; rfl
theorem words_inj : ∀ (l l' : List ByteArray), l.map (fun w : ByteArray => w.data.toList) = l'.map (fun w => w.data.toList) -> l = l'
  | [], [], _ => rfl
  | [], _ :: _, h => by cases h
  | _ :: _, [], h => by cases h
  | a :: l, b :: l', h => by
    simp only [List.map_cons, List.cons.injEq] at h
    rw [list_inj h.1, words_inj l l' h.2]
theorem toks_of (s : ByteArray) (hs : s.size <= 65536) (a : List (Nat × Nat)) (n : Nat) (h : sc s.data.toList = (a, n, 0)) (ws : List ByteArray) (hw : a.map (fun q => wd s.data.toList q.1 q.2) = ws.map (fun w => w.data.toList)) : (ans s).2.2 = 0 /\ (∀ t ∈ (ans s).1, WfT t) /\ (ans s).1.map (·.t) = ws := by
  have e : ans s = (a.map (tk s), (0, 0), 0) := by
    unfold ans
    rw [if_neg (by omega), h]
    rfl
  rw [e]
  refine ⟨rfl, fun t ht => ?_, ?_⟩
  · obtain ⟨q, _, rfl⟩ := List.mem_map.1 ht
    unfold WfT tk
    simp only
    rw [ext_list]
    exact ⟨rfl, rfl⟩
  · have h2 : (a.map (tk s)).map (fun t => t.t.data.toList) = ws.map (fun w => w.data.toList) := by
      rw [List.map_map, <- hw]
      apply List.map_congr_left
      intro q _
      show (tk s q).t.data.toList = _
      unfold tk
      exact ext_list s q.1 q.2
    have h3 : ((a.map (tk s)).map (·.t)).map (fun w : ByteArray => w.data.toList) = ws.map (fun w => w.data.toList) := by rw [List.map_map]; exact h2
    exact words_inj _ _ h3
theorem sep_nl : Sep [10] := ⟨⟨10, [], rfl, by decide⟩, fun p r a h => K.step_blank p r 10 a (by decide) (by decide) h⟩
def gdB (l : List UInt8) : Bool := !l.isEmpty && (l.all (fun c => T.seen c.toNat) && (l != [92] && (l != [40] && (decide (l.length <= 31) && decide (T.numE l ≠ 21)))))
theorem gd_of {l : List UInt8} (h : gdB l = true) : Gd l := by
  unfold gdB at h
  simp only [Bool.and_eq_true, Bool.not_eq_true', List.isEmpty_eq_false_iff, List.all_eq_true, bne_iff_ne, decide_eq_true_eq] at h
  obtain ⟨a, b, c, d, e, f⟩ := h
  exact ⟨a, b, c, d, e, f⟩
def GW (w : ByteArray) : Prop := Gd w.data.toList
theorem gw_nm {s : ByteArray} (h : isNm s = true) : GW s := by
  rw [im_is] at h
  unfold imF at h
  rw [Bool.and_eq_true] at h
  have h1 := h.1
  unfold T.nameB at h1
  simp only [Bool.and_eq_true, decide_eq_true_eq, List.all_eq_true] at h1
  obtain ⟨a, b, c, d, e, f⟩ := h1
  refine ⟨fun x => by rw [x] at a; simp at a, e, c, d, b, ?_⟩
  unfold T.numE T.errOf
  rw [f]
  decide
theorem gw_dcm (v : Int) (h : 0 <= v /\ v <= 65535) : GW (dcm v) := by
  obtain ⟨a, b, c⟩ := dcm_seen v h
  have hn := (dcm_num v h).2
  refine ⟨b, a, fun e => ?_, fun e => ?_, by omega, by rw [hn]; decide⟩
  · rw [e] at hn; exact absurd hn (by decide)
  · rw [e] at hn; exact absurd hn (by decide)
theorem gw_pn_all : (List.range' 9 55).all (fun x => gdB (P.nm x).data.toList) = true := by kernel_rfl
theorem gw_pn (op : Int) (h : 9 <= op /\ op <= 63) : GW (pn op) := by
  unfold pn
  rw [if_neg (by omega)]
  exact gd_of (List.all_eq_true.1 gw_pn_all op.toNat (List.mem_range'_1.2 (by omega)))
theorem gw_fix {w : ByteArray} (h : gdB w.data.toList = true) : GW w := gd_of h
theorem nwf_gw (k op v : Int) (nm : ByteArray) (has : Bool) (a b : List ByteArray) (h1 : k = 1 -> GW (pn op)) (h2 : k = 2 -> GW (dcm v)) (h3 : k = 3 -> GW nm) (ha : ∀ w ∈ a, GW w) (hb : ∀ w ∈ b, GW w) : ∀ w ∈ nwf k op v nm has a b, GW w := by
  have c1 : ∀ x : ByteArray, GW x -> ∀ w ∈ [x], GW w := fun x hx w hw => by rw [List.mem_singleton] at hw; rw [hw]; exact hx
  have c2 : ∀ (p q : List ByteArray), (∀ w ∈ p, GW w) -> (∀ w ∈ q, GW w) -> ∀ w ∈ p ++ q, GW w := fun p q hp hq w hw => by
    rcases List.mem_append.1 hw with h | h
    · exact hp w h
    · exact hq w h
  unfold nwf
  split
  · rename_i h; exact c1 _ (h1 h)
  · split
    · rename_i h; exact c1 _ (h2 h)
    · split
      · rename_i h; exact c1 _ (h3 h)
      · split
        · exact c1 _ (gw_fix (by kernel_rfl))
        · split
          · split
            · exact c2 _ _ (c2 _ _ (c2 _ _ (c2 _ _ (c1 _ (gw_fix (by kernel_rfl))) ha) (c1 _ (gw_fix (by kernel_rfl)))) hb) (c1 _ (gw_fix (by kernel_rfl)))
            · exact c2 _ _ (c2 _ _ (c1 _ (gw_fix (by kernel_rfl))) ha) (c1 _ (gw_fix (by kernel_rfl)))
          · split
            · exact c2 _ _ (c2 _ _ (c2 _ _ (c2 _ _ (c1 _ (gw_fix (by kernel_rfl))) ha) (c1 _ (gw_fix (by kernel_rfl)))) hb) (c1 _ (gw_fix (by kernel_rfl)))
            · split
              · exact c2 _ _ (c2 _ _ (c1 _ (gw_fix (by kernel_rfl))) ha) (c1 _ (gw_fix (by kernel_rfl)))
              · split
                · exact c2 _ _ (c2 _ _ (c1 _ (gw_fix (by kernel_rfl))) ha) (c1 _ (gw_fix (by kernel_rfl)))
                · split
                  · exact c2 _ _ (c2 _ _ (c1 _ (gw_fix (by kernel_rfl))) ha) (c1 _ (gw_fix (by kernel_rfl)))
                  · intro w hw; cases hw
theorem nws_gw {l : List Nd} (h : ∀ m ∈ l, ∀ w ∈ nw m, GW w) : ∀ w ∈ nws l, GW w := fun w hw => by
  unfold nws at hw
  obtain ⟨x, hx, hw⟩ := List.mem_flatten.1 hw
  obtain ⟨m, hm, rfl⟩ := List.mem_map.1 hx
  exact h m hm w hw
theorem nw_gw {names : List ByteArray} (hN : ∀ s ∈ names, isNm s = true) (n : Nd) : ∀ i, ck names n i = 0 -> vn n = true -> ∀ w ∈ nw n, GW w := by
  refine Y.Nd.ind (P := fun n => ∀ i, ck names n i = 0 -> vn n = true -> ∀ w ∈ nw n, GW w) ?_ n
  intro n h1 h2 i h hv
  obtain ⟨ho, ht, he⟩ := ck_own h
  obtain ⟨_, hf, _, _⟩ := own_is ho
  rw [vn_is, Bool.and_eq_true, Bool.and_eq_true] at hv
  obtain ⟨v0, v1, v2⟩ := hv
  rw [nw_is]
  refine nwf_gw _ _ _ _ _ _ _ (fun hk => gw_pn _ (fits_pr hf hk)) (fun hk => gw_dcm _ ?_) (fun hk => gw_nm (hN _ (fits_nm hf hk))) (nws_gw fun m hm => h1 m hm _ (cks_mem ht m hm) (vns_mem v1 m hm)) (nws_gw fun m hm => h2 m hm _ (cks_mem he m hm) (vns_mem v2 m hm))
  rw [hk] at v0
  simpa using v0
theorem dw_gw {ns : List ByteArray} (hN : ∀ s ∈ ns, isNm s = true) {d : Df} (h : dfE ns d = 0) (hv : vd d = true) : ∀ w ∈ dw d, GW w := by
  obtain ⟨_, h2, _, _, h5⟩ := dfE_is h
  unfold vd at hv
  simp only [Bool.and_eq_true, decide_eq_true_eq] at hv
  obtain ⟨v0, v1, v2⟩ := hv
  have hn := gw_nm h2
  have hb := nws_gw fun m hm => nw_gw hN m _ (cks_mem h5 m hm) (vns_mem v2 m hm)
  intro w hw
  unfold dw at hw
  split at hw
  · simp only [List.mem_append, List.mem_cons, List.not_mem_nil, or_false] at hw
    rcases hw with ((rfl | rfl) | hw) | rfl
    · exact gw_fix (by kernel_rfl)
    · exact hn
    · exact hb w hw
    · exact gw_fix (by kernel_rfl)
  · split at hw
    · simp only [List.mem_cons, List.not_mem_nil, or_false] at hw
      rcases hw with rfl | rfl | rfl
      · exact gw_dcm _ ⟨v0, v1⟩
      · exact gw_fix (by kernel_rfl)
      · exact hn
    · split at hw
      · simp only [List.mem_cons, List.not_mem_nil, or_false] at hw
        rcases hw with rfl | rfl
        · exact gw_fix (by kernel_rfl)
        · exact hn
      · simp only [List.mem_cons, List.not_mem_nil, or_false] at hw
        rcases hw with rfl | rfl | rfl
        · exact gw_dcm _ ⟨v0, v1⟩
        · exact gw_fix (by kernel_rfl)
        · exact hn
theorem dws_gw : ∀ {ds : List Df} {ns : List ByteArray}, (∀ s ∈ ns, isNm s = true) -> dsE ns ds = 0 -> ds.all vd = true -> ∀ d ∈ ds, ∀ w ∈ dw d, GW w
  | [], _, _, _, _, d, hd => by cases hd
  | d0 :: r, ns, hN, h, hv, d, hd => by
    obtain ⟨h1, h2⟩ := dsE_cons h
    rw [List.all_cons, Bool.and_eq_true] at hv
    rcases List.mem_cons.1 hd with rfl | hd
    · exact dw_gw hN h1 hv.1
    · refine dws_gw (ns := ns ++ [d0.nm]) (fun s hs => ?_) h2 hv.2 d hd
      rcases List.mem_append.1 hs with hs | hs
      · exact hN s hs
      · rw [List.mem_singleton] at hs
        rw [hs]; exact (dfE_is h1).2.1
theorem bws_gw : ∀ {bs : List Bk} {z : Int}, bkE z bs = 0 -> ∀ b ∈ bs, ∀ w ∈ bw b, GW w
  | [], _, _, b, hb => by cases hb
  | b0 :: r, z, h, b, hb => by
    obtain ⟨h1, h2, h3, _, h5⟩ := bkE_cons h
    rcases List.mem_cons.1 hb with rfl | hb
    · intro w hw
      unfold bw at hw
      simp only [List.mem_append, List.mem_cons, List.mem_map, List.not_mem_nil, or_false] at hw
      rcases hw with ((rfl | rfl | rfl) | ⟨x, _, rfl⟩) | rfl
      · have hwr : IntKind.u16.wrap b.1 = b.1 := by rw [IntKind.wrap_u16]; omega
        rw [hwr]
        exact gw_dcm _ (by omega)
      · exact gw_fix (by kernel_rfl)
      · exact gw_fix (by kernel_rfl)
      · have := x.toNat_lt
        exact gw_dcm _ (by omega)
      · exact gw_fix (by kernel_rfl)
    · exact bws_gw h5 b hb
end Go.Proofs.YtdnklgceghllaaaGreatDoor.M
namespace Go.Proofs.YtdnklgceghllaaaGreatDoor.M
open Go.RowKit
open Go.Proofs
open Go.Proofs.YtdnklgceghllaaaGreatDoor.K (Tk ans sc At wd Gd Sep)
open Go.Proofs.YtdnklgceghllaaaGreatDoor.Y (Nd Df Ps Bk)
open Go.Proofs.YtdnklgceghllaaaGreatDoor.R (chk dsE bkE)
set_option linter.unusedVariables false
set_option linter.unusedSimpArgs false
set_option maxRecDepth 100000
def ln : List ByteArray -> List (List UInt8 × List UInt8)
 | [] => []
 | [w] => [(w.data.toList, [10])]
 | w :: v :: r => (w.data.toList, [32]) :: ln (v :: r)
theorem ln_words : ∀ ws : List ByteArray, (ln ws).map (·.1) = ws.map (fun w => w.data.toList)
 | [] => rfl
 | [w] => rfl
 | w :: v :: r => by rw [ln, List.map_cons, ln_words (v :: r)]; rfl
theorem ln_good : ∀ ws : List ByteArray, (∀ w ∈ ws, GW w) -> ∀ x ∈ ln ws, Gd x.1 /\ Sep x.2
 | [], _, x, hx => by cases hx
 | [w], h, x, hx => by
  rw [ln, List.mem_singleton] at hx
  subst hx
  exact ⟨h w (by simp), sep_nl⟩
 | w :: v :: r, h, x, hx => by
  rw [ln] at hx
  rcases List.mem_cons.1 hx with rfl | hx
  ·exact ⟨h w (by simp), K.sep_one⟩
  ·exact ln_good (v :: r) (fun y hy => h y (by simp at hy ⊢; exact .inr hy)) x hx
def fl (ws : List ByteArray) : List UInt8 := ws.flatMap fun w => w.data.toList ++ [32]
theorem fl_cons (w : ByteArray) (ws : List ByteArray) : fl (w :: ws) = w.data.toList ++ [32] ++ fl ws := rfl
theorem lf_ln : ∀ ws : List ByteArray, ws ≠ [] -> ∃ b, fl ws = b ++ [32] /\ Lf (ln ws) = b ++ [10]
 | [], h => absurd rfl h
 | [w], _ => ⟨w.data.toList, by simp [fl], by simp [ln, Lf]⟩
 | w :: v :: r, _ => by
  obtain ⟨b, h1, h2⟩ := lf_ln (v :: r) (by simp)
  refine ⟨w.data.toList ++ [32] ++ b, by rw [fl_cons, h1]; simp, ?_⟩
  rw [ln, Lf, h2]
  simp
theorem endL_fl (t : List UInt8) (ws : List ByteArray) (h : ws ≠ []) : endL (t ++ fl ws) = t ++ Lf (ln ws) := by
 obtain ⟨b, h1, h2⟩ := lf_ln ws h
 rw [h1, h2]
 unfold endL
 have e : (t ++ (b ++ [32])).length - 1 = (t ++ b).length := by simp
 rw [e, <- List.append_assoc, List.set_append_right _ _ (Nat.le_refl _), Nat.sub_self]
 simp
theorem put1_ge (t : List UInt8) (w : ByteArray) : t.length <= (put1 t w).length := by
 unfold put1
 split
 ·simp
 ·exact Nat.le_refl _
theorem puts_ge : ∀ (ws : List ByteArray) (t : List UInt8), t.length <= (puts t ws).length
 | [], t => Nat.le_refl _
 | w :: ws, t => Nat.le_trans (put1_ge t w) (puts_ge ws (put1 t w))
theorem puts_short : ∀ (ws : List ByteArray) (t : List UInt8), (puts t ws).length <= 65536 -> puts t ws = t ++ fl ws
 | [], t, _ => by simp [puts, fl]
 | w :: ws, t, h => by
  rw [puts_cons] at h ⊢
  have h1 := Nat.le_trans (puts_ge ws (put1 t w)) h
  have h2 := Nat.le_trans (put1_ge t w) h1
  have e : put1 t w = t ++ w.data.toList ++ [32] := by unfold put1; rw [if_pos h2]
  rw [puts_short ws _ h, e, fl_cons]
  simp
theorem endL_len (t : List UInt8) : (endL t).length = t.length := by unfold endL; rw [List.length_set]
theorem dtx_ge : ∀ (ds : List Df) (t : List UInt8), t.length <= (dtx t ds).length
 | [], t => Nat.le_refl _
 | d :: ds, t => by
  have h1 := puts_ge (dw d) t
  have h2 := dtx_ge ds (endL (puts t (dw d)))
  rw [endL_len] at h2
  show _ <= (dtx (endL (puts t (dw d))) ds).length
  omega
theorem btx_ge : ∀ (ds : List Bk) (t : List UInt8), t.length <= (btx t ds).length
 | [], t => Nat.le_refl _
 | d :: ds, t => by
  have h1 := puts_ge (bw d) t
  have h2 := btx_ge ds (endL (puts t (bw d)))
  rw [endL_len] at h2
  show _ <= (btx (endL (puts t (bw d))) ds).length
  omega
theorem dtx_short : ∀ (ds : List Df) (t : List UInt8), (dtx t ds).length <= 65536 -> dtx t ds = t ++ Lf (ds.flatMap fun d => ln (dw d))
 | [], t, _ => by simp [dtx, Lf]
 | d :: ds, t, h => by
  have e : dtx t (d :: ds) = dtx (endL (puts t (dw d))) ds := rfl
  rw [e] at h ⊢
  have h1 := Nat.le_trans (dtx_ge ds _) h
  rw [endL_len] at h1
  rw [dtx_short ds _ h, puts_short _ _ h1, endL_fl _ _ (dw_ne d), List.flatMap_cons, lf_app, List.append_assoc]
theorem btx_short : ∀ (ds : List Bk) (t : List UInt8), (btx t ds).length <= 65536 -> btx t ds = t ++ Lf (ds.flatMap fun d => ln (bw d))
 | [], t, _ => by simp [btx, Lf]
 | d :: ds, t, h => by
  have e : btx t (d :: ds) = btx (endL (puts t (bw d))) ds := rfl
  rw [e] at h ⊢
  have h1 := Nat.le_trans (btx_ge ds _) h
  rw [endL_len] at h1
  rw [btx_short ds _ h, puts_short _ _ h1, endL_fl _ _ (bw_ne d), List.flatMap_cons, lf_app, List.append_assoc]
theorem ptx_short (ds : List Df) (bs : List Bk) (h : (ptx ds bs).length <= 65536) : ptx ds bs = Lf ((ds.flatMap fun d => ln (dw d)) ++ (bs.flatMap fun b => ln (bw b))) := by
 unfold ptx at h ⊢
 have h1 := Nat.le_trans (btx_ge bs _) h
 rw [btx_short bs _ h, dtx_short ds _ h1, List.nil_append, lf_app]
theorem flat_words {α : Type} (f : α -> List ByteArray) : ∀ l : List α, (l.flatMap fun d => ln (f d)).map (·.1) = (l.flatMap f).map (fun w => w.data.toList)
 | [] => rfl
 | a :: l => by rw [List.flatMap_cons, List.flatMap_cons, List.map_append, List.map_append, ln_words, flat_words f l]
theorem flat_good {α : Type} (f : α -> List ByteArray) (l : List α) (h : ∀ a ∈ l, ∀ w ∈ f a, GW w) : ∀ x ∈ l.flatMap fun d => ln (f d), Gd x.1 /\ Sep x.2 := fun x hx => by
 obtain ⟨a, ha, hx⟩ := List.mem_flatMap.1 hx
 exact ln_good _ (h a ha) x hx
theorem parse_print (ds : List Df) (bs : List Bk) (hc : chk ds bs = 0) (hv : ds.all vd = true) (hl : (ptx ds bs).length <= 65536) : ∃ ds', pans ⟨(ptx ds bs).toArray⟩ = .ok (ds', bs) /\ smds ds ds' = true := by
 obtain ⟨c1, c2, c3⟩ := chk_is hc
 have hpt := ptx_short ds bs hl
 have hgood : ∀ x ∈ (ds.flatMap fun d => ln (dw d)) ++ (bs.flatMap fun b => ln (bw b)), Gd x.1 /\ Sep x.2 := fun x hx => by
  rcases List.mem_append.1 hx with hx | hx
  ·exact flat_good dw ds (dws_gw (ns := []) (fun s hs => by cases hs) c1 hv) x hx
  ·exact flat_good bw bs (bws_gw c2) x hx
 obtain ⟨a, h1, h2⟩ := lf_scan _ [] [] hgood (At.start _)
 rw [List.nil_append, <- hpt] at h1 h2
 rw [List.nil_append] at h1
 rw [List.map_append, flat_words, flat_words, <- List.map_append] at h2
 have hs : (⟨(ptx ds bs).toArray⟩ : ByteArray).size <= 65536 := by
  have : (⟨(ptx ds bs).toArray⟩ : ByteArray).size = (ptx ds bs).length := by simp [ByteArray.size]
  omega
 have hd : (⟨(ptx ds bs).toArray⟩ : ByteArray).data.toList = ptx ds bs := by simp
 obtain ⟨q1, q2, q3⟩ := toks_of ⟨(ptx ds bs).toArray⟩ hs a _ (by rw [hd]; exact h1) (ds.flatMap dw ++ bs.flatMap bw) (by rw [hd]; exact h2)
 unfold pans
 rw [if_pos q1]
 exact read_words _ ds bs hc hv _ q2 q3
end Go.Proofs.YtdnklgceghllaaaGreatDoor.M
namespace Go.Proofs.YtdnklgceghllaaaGreatDoor.M
open Go.Proofs.YtdnklgceghllaaaGreatDoor.K (Tk ans)
open Go.Proofs.YtdnklgceghllaaaGreatDoor.Y (Nd Df Ps)
open Go.Proofs.YtdnklgceghllaaaGreatDoor.D (Rd Er Re rres rd0 read_is PM)
open Go.Proofs.YtdnklgceghllaaaGreatDoor.R (lk)
set_option linter.unusedVariables false
set_option maxRecDepth 100000
def tx1 : ByteArray := ⟨#[58, 32, 109, 97, 105, 110, 32, 55, 32, 100, 114, 111, 112, 32, 59]⟩
def tx2 : ByteArray := ⟨#[58, 32, 109, 97, 105, 110, 32, 105, 102, 32, 59]⟩
def run (s : ByteArray) : Re := itemsG rsF imF knF (lkF PL) (T.place s.data.toList s.size) ((ans s).1.length + 1) (rd0 (ans s).1)
theorem pans_run (s : ByteArray) (h : (ans s).2.2 = 0) : pans s = rres (T.place s.data.toList s.size) (run s) := by
 unfold pans run
 rw [if_pos h, read_is, itemsF_is]
def mn : ByteArray := ⟨#[109, 97, 105, 110]⟩
def df1 : Df := ⟨1, mn, 0, [D.lit 7 (1, 8), D.prm 13 (1, 10)], (1, 3)⟩
theorem ans1 : (ans tx1).2.2 = 0 := by kernel_rfl
theorem ans2 : (ans tx2).2.2 = 0 := by kernel_rfl
theorem run1 : (match run tx1 with | .ok r => some (r.defs, r.banks) | .error _ => none) = some ([df1], []) := by kernel_rfl
theorem run2 : (match run tx2 with | .ok r => none | .error e => some e) = some ((1, 11), 104) := by kernel_rfl
theorem pans1 : pans tx1 = .ok ([df1], []) := by
 rw [pans_run _ ans1]
 have h := run1
 revert h
 cases run tx1 with
 | error e => intro h; cases h
 | ok r =>
  intro h
  simp only [Option.some.injEq, Prod.mk.injEq] at h
  show (if r.defs.any R.isMain = true then _ else _) = _
  rw [h.1, h.2, if_pos (by kernel_rfl)]
  simp
theorem pans2 : pans tx2 = .error ((1, 11), 104) := by
 rw [pans_run _ ans2]
 have h := run2
 revert h
 cases run tx2 with
 | error e => intro h; simp only [Option.some.injEq] at h; rw [h]; rfl
 | ok r => intro h; cases h
end Go.Proofs.YtdnklgceghllaaaGreatDoor.M
namespace Go.Proofs.YtdnklgceghllaaaGreatDoor.M
open Go.RowKit
open Go.Proofs
open Go.Proofs.YtdnklgceghllaaaGreatDoor.Y (Nd Df Ps Bk)
open Go.Proofs.YtdnklgceghllaaaGreatDoor.R (chk ck cks dfE dsE)
set_option linter.unusedVariables false
set_option maxRecDepth 100000
theorem e0_list : Y.e0.toList = [] := by rw [ByteArray.toList_eq]; rfl
theorem cks1 : cks [] [D.lit 7 (1, 8), D.prm 13 (1, 10)] (0, false) = 0 := by
 have a : R.own1 [] (D.lit 7 (1, 8)) (0, false) = 0 := by
  simp [R.own1, R.uses, R.usesF, D.lit, e0_list, R.fits, R.strc]
 have b : R.own1 [] (D.prm 13 (1, 10)) (0, false) = 0 := by
  simp [R.own1, R.uses, R.usesF, D.prm, e0_list, R.fits, R.strc]
 rw [R.cks_cons, R.ck_is, if_pos a]
 simp only [D.lit, R.cks_nil, if_true]
 rw [R.cks_cons, R.ck_is, if_pos b]
 simp [D.prm, R.cks_nil]
theorem chk1 : chk [df1] [] = 0 := by
 have hn : R.isNm mn = true := by rw [im_is]; kernel_rfl
 have hd : dfE [] df1 = 0 := by
  unfold dfE
  simp [df1, R.fieldsF, hn, cks1]
 unfold chk
 rw [dsE, if_pos hd]
 have hm : ([df1].any R.isMain) = true := by kernel_rfl
 simp [dsE, R.bkE, hm]
theorem chk0 : chk [] [] = 107 := rfl
theorem dcm7 : dcm 7 = ⟨#[55]⟩ := by
 have : (Lib.itoa (wrap64 7)) = [55] := by
  rw [show wrap64 7 = 7 from by unfold wrap64; omega]
  unfold Lib.itoa
  rw [if_neg (by decide)]
  exact Lib.decDigits_one (i := 7) (by decide)
 unfold dcm
 rw [this]
def pt1 : List UInt8 := [58, 32, 109, 97, 105, 110, 32, 55, 32, 100, 114, 111, 112, 32, 59, 10]
theorem ptx1 : ptx [df1] [] = pt1 := by
 have h : dw df1 = [wColon, mn, ⟨#[55]⟩, P.nm 13, wSemi] := by
  unfold dw
  simp only [df1, if_true, nws_cons, nws_nil, nw_is, D.lit, D.prm]
  simp [nwf, dcm7, pn]
 show endL (puts [] (dw df1)) = _
 rw [h]
 kernel_rfl
theorem prn1 : prn [df1] [] = (⟨pt1.toArray⟩, 0) := by
 unfold prn
 rw [if_pos chk1, ptx1, if_neg (by decide)]
theorem sm_refl (n : Nd) : sm n n = true := by
 refine Y.Nd.ind (P := fun n => sm n n = true) ?_ n
 intro n h1 h2
 have hl : ∀ l : List Nd, (∀ m ∈ l, sm m m = true) -> sml l l = true := by
  intro l
  induction l with
  | nil => intro _; rfl
  | cons a r ih =>
   intro h
   rw [sml_cc, h a (by simp), ih fun m hm => h m (by simp [hm])]
   rfl
 obtain ⟨k, op, v, nm, th, el, has, p⟩ := n
 rw [sm_mk, hl th h1, hl el h2]
 simp
theorem sml_refl : ∀ l : List Nd, sml l l = true
 | [] => rfl
 | n :: r => by rw [sml_cc, sm_refl, sml_refl r]; rfl
theorem smds_refl (l : List Df) : smds l l = true := smds_all l l rfl fun i a b ha hb => by
 rw [ha] at hb
 cases hb
 simp [smd, sml_refl]
theorem smbs_refl (l : List Bk) : smbs l l = true := smbs_all l l rfl fun i a b ha hb => by
 rw [ha] at hb
 cases hb
 simp [smb]
end Go.Proofs.YtdnklgceghllaaaGreatDoor.M
namespace Go.Proofs.YtdnklgceghllaaaGreatDoor.M
open Go.RowKit
open Go.Proofs
open Go.Proofs.YtdnklgceghllaaaGreatDoor.K (Tk kd Gd ans sc tk wd)
open Go.Proofs.YtdnklgceghllaaaGreatDoor.Y (Nd Df Ps Bk e0)
open Go.Proofs.YtdnklgceghllaaaGreatDoor.D (Rd Er Re next must add put begin_ close turnElse turnWhile leave finish ctl isW lit prm cll ext setK setHas standIn node bodyN known PM)
open Go.Proofs.YtdnklgceghllaaaGreatDoor.R (ck cks own1 fits inn isNm lk dfE dsE bkE chk)
set_option linter.unusedVariables false
set_option linter.unusedSimpArgs false
set_option maxRecDepth 100000
structure GT (t : Tk) : Prop where
 wf : WfT t
 gd : Gd t.t.data.toList
theorem ans_gt (s : ByteArray) : ∀ t ∈ (ans s).1, GT t := by
 intro t ht
 unfold ans at ht
 split at ht
 ·cases ht
 ·split at ht
  ·obtain ⟨q, hq, rfl⟩ := List.mem_map.1 ht
   refine ⟨?_, ?_⟩
   ·unfold WfT tk
    simp only
    rw [K.ext_list]
    exact ⟨rfl, rfl⟩
   ·have := K.sc_good s.data.toList q hq
    unfold tk
    simp only
    rw [K.ext_list]
    exact this
  ·cases ht
def iAt (o : List Nd) : Nat × Bool := (o.length, o.any fun n => n.k == 8)
theorem iAt_snoc (o : List Nd) (t : Nd) : iAt (o ++ [t]) = inn t (iAt o) := by
 unfold iAt inn
 rw [List.length_append, List.any_append]
 simp
structure TN (ns : List ByteArray) (i : Nat × Bool) (t : Nd) : Prop where
 lt : i.1 < 32
 kk : t.k = 0 \/ t.k = 4 \/ t.k = 6 \/ t.k = 8
 op : t.op = 0
 v : t.v = 0
 nm : t.nm = e0
 has : t.has = true -> t.k = 4
 el : t.el = [] \/ t.has = true \/ t.k = 6
 cth : cks ns t.th (inn t i) = 0
 cel : cks ns t.el (inn t i) = 0
 vth : vns t.th = true
 vel : vns t.el = true
structure BI (ns : List ByteArray) (r : Rd) : Prop where
 nms : r.defs.map (·.nm) = ns
 bod : cks ns r.body (0, false) = 0
 vb : vns r.body = true
 opn : ∀ (j : Nat) (t : Nd), r.opn[j]? = some t -> TN ns (iAt (r.opn.take j)) t
theorem BI.move {ns : List ByteArray} {r : Rd} (h : BI ns r) (ts : List Tk) (a : Tk) : BI ns { r with rest := ts, at_ := a } := ⟨h.nms, h.bod, h.vb, h.opn⟩
theorem BI.top {ns : List ByteArray} {r : Rd} (h : BI ns r) {o : List Nd} {t : Nd} (e : r.opn = o ++ [t]) : TN ns (iAt o) t := by
 have := h.opn o.length t (by rw [e, List.getElem?_append_right (Nat.le_refl _), Nat.sub_self]; rfl)
 rwa [e, List.take_left'] at this
 rfl
theorem BI.setTop {ns : List ByteArray} {r : Rd} (h : BI ns r) {o : List Nd} {t : Nd} (e : r.opn = o ++ [t]) (t' : Nd) (ht : TN ns (iAt o) t') : BI ns { r with opn := o ++ [t'] } := by
 refine ⟨h.nms, h.bod, h.vb, fun j x hx => ?_⟩
 simp only at hx ⊢
 have hj := (List.getElem?_eq_some_iff.1 hx).1
 rw [List.length_append, List.length_singleton] at hj
 by_cases hlt : j < o.length
 ·rw [List.getElem?_append_left hlt] at hx
  have := h.opn j x (by rw [e, List.getElem?_append_left hlt]; exact hx)
  rw [e, List.take_append_of_le_length (by omega)] at this
  rw [List.take_append_of_le_length (by omega)]
  exact this
 ·obtain rfl : j = o.length := by omega
  rw [List.getElem?_append_right (Nat.le_refl _), Nat.sub_self] at hx
  simp only [List.getElem?_cons_zero, Option.some.injEq] at hx
  subst hx
  rw [List.take_left' rfl]
  exact ht
theorem BI.pop {ns : List ByteArray} {r : Rd} (h : BI ns r) {o : List Nd} {t : Nd} (e : r.opn = o ++ [t]) : BI ns { r with opn := o } := by
 refine ⟨h.nms, h.bod, h.vb, fun j x hx => ?_⟩
 simp only at hx ⊢
 have hlt := (List.getElem?_eq_some_iff.1 hx).1
 have := h.opn j x (by rw [e, List.getElem?_append_left hlt]; exact hx)
 rwa [e, List.take_append_of_le_length (by omega)] at this
theorem BI.push {ns : List ByteArray} {r : Rd} (h : BI ns r) (t' : Nd) (ht : TN ns (iAt r.opn) t') : BI ns { r with opn := r.opn ++ [t'] } := by
 refine ⟨h.nms, h.bod, h.vb, fun j x hx => ?_⟩
 simp only at hx ⊢
 have hj := (List.getElem?_eq_some_iff.1 hx).1
 rw [List.length_append, List.length_singleton] at hj
 by_cases hlt : j < r.opn.length
 ·rw [List.getElem?_append_left hlt] at hx
  rw [List.take_append_of_le_length (by omega)]
  exact h.opn j x hx
 ·obtain rfl : j = r.opn.length := by omega
  rw [List.getElem?_append_right (Nat.le_refl _), Nat.sub_self] at hx
  simp only [List.getElem?_cons_zero, Option.some.injEq] at hx
  subst hx
  rw [List.take_left' rfl]
  exact ht
theorem cks_one {ns : List ByteArray} {l : List Nd} {n : Nd} {i : Nat × Bool} (h : cks ns l i = 0) (hn : ck ns n i = 0) : cks ns (l ++ [n]) i = 0 := by
 rw [R.cks_append, if_pos h, R.cks_cons, if_pos hn]
 rfl
theorem vns_one {l : List Nd} {n : Nd} (h : vns l = true) (hn : vn n = true) : vns (l ++ [n]) = true := by
 unfold vns at h ⊢
 rw [List.map_append, List.all_append, h, Bool.true_and]
 simp [hn]
theorem BI.add {ns : List ByteArray} {r : Rd} (h : BI ns r) (n : Nd) (hn : ck ns n (iAt r.opn) = 0) (hv : vn n = true) : BI ns (D.add n r) := by
 rcases List.eq_nil_or_concat r.opn with e | ⟨o, t, e⟩
 ·have : D.add n r = { r with body := r.body ++ [n] } := by unfold D.add; rw [e]; rfl
  rw [this]
  rw [e] at hn
  exact ⟨h.nms, cks_one h.bod hn, vns_one h.vb hv, h.opn⟩
 ·have e' : r.opn = o ++ [t] := by rw [e, List.concat_eq_append]
  have ht := h.top e'
  rw [e', iAt_snoc] at hn
  have hr : D.add n r = { r with opn := o ++ [put t n] } := by
   have : r = { r with opn := o ++ [t] } := by rw [<- e']
   rw [this, add_top]
  rw [hr]
  refine h.setTop e' _ ?_
  unfold put
  split
  ·rename_i c
   refine ⟨ht.lt, ht.kk, ht.op, ht.v, ht.nm, ht.has, ?_, ht.cth, cks_one ht.cel hn, ht.vth, vns_one ht.vel hv⟩
   right
   rw [Bool.or_eq_true, beq_iff_eq] at c
   exact c
  ·exact ⟨ht.lt, ht.kk, ht.op, ht.v, ht.nm, ht.has, ht.el, cks_one ht.cth hn, ht.cel, vns_one ht.vth hv, ht.vel⟩
theorem ck_leaf {ns : List ByteArray} {n : Nd} {i : Nat × Bool} (h : own1 ns n i = 0) (h1 : n.th = []) (h2 : n.el = []) : ck ns n i = 0 := by
 rw [R.ck_is, if_pos h, h1, h2]
 rfl
theorem vn_leaf {n : Nd} (h : n.k = 2 -> 0 <= n.v /\ n.v <= 65535) (h1 : n.th = []) (h2 : n.el = []) : vn n = true := by
 rw [vn_is, h1, h2]
 simp only [Bool.and_eq_true, Bool.or_eq_true, bne_iff_ne, ne_eq, decide_eq_true_eq]
 refine ⟨?_, rfl, rfl⟩
 by_cases e : n.k = 2
 ·exact .inr (h e)
 ·exact .inl e
theorem lkF_mem : ∀ (l : List Nat) (s : ByteArray) (v : Int), lkF (l.map fun x => (P.nm x, (x : Int))) s = some v -> ∃ x ∈ l, v = (x : Int)
 | [], s, v, h => by cases h
 | a :: l, s, v, h => by
  rw [List.map_cons, lkF] at h
  split at h
  ·exact ⟨a, by simp, (Option.some.inj h).symm⟩
  ·obtain ⟨x, hx, e⟩ := lkF_mem l s v h
   exact ⟨x, by simp [hx], e⟩
theorem prim_in {s : ByteArray} {v : Int} (hs : s.data.toList ≠ []) (h : lk PM s = some v) : 9 <= v /\ v <= 63 := by
 rw [lk_is] at h
 unfold PL at h
 rw [lkF] at h
 have : isB ⟨#[]⟩ s = false := by
  unfold isB
  rw [beq_eq_false_iff_ne]
  exact fun c => hs c.symm
 rw [this, if_neg (by decide)] at h
 obtain ⟨x, hx, rfl⟩ := lkF_mem _ _ _ h
 have := List.mem_range'_1.1 hx
 omega
theorem own_lit (ns : List ByteArray) (v : Int) (p : Ps) (i : Nat × Bool) : own1 ns (lit v p) i = 0 := by
 simp [own1, R.uses, R.usesF, lit, e0_list, fits, R.strc]
theorem own_prm (ns : List ByteArray) (op : Int) (p : Ps) (i : Nat × Bool) (h : 9 <= op /\ op <= 63) : own1 ns (prm op p) i = 0 := by
 simp [own1, R.uses, R.usesF, prm, e0_list, fits, R.strc, h.1, h.2]
theorem own_cll (ns : List ByteArray) (s : ByteArray) (p : Ps) (i : Nat × Bool) (h : (ns.any fun x => decide (x = s)) = true) : own1 ns (cll s p) i = 0 := by
 have hf : fits ns (cll s p) = true := by unfold fits cll; simpa using h
 unfold own1
 rw [hf]
 simp [R.uses, R.usesF, cll, e0_list, R.strc]
theorem own_ext (ns : List ByteArray) (p : Ps) (i : Nat × Bool) (h : i.2 = false) : own1 ns (ext p) i = 0 := by
 simp [own1, R.uses, R.usesF, ext, e0_list, fits, R.strc, h]
theorem ck_close {ns : List ByteArray} {i : Nat × Bool} {t : Nd} (h : TN ns i t) (b : Int) (hb : (t.k = 4 /\ b = 4) \/ (t.k = 0 /\ (b = 5 \/ b = 7)) \/ (t.k = 6 /\ b = 6) \/ (t.k = 8 /\ b = 8)) : ck ns (setK t b) i = 0 /\ vn (setK t b) = true := by
 obtain ⟨k, op, v, nm, th, el, has, p⟩ := t
 obtain ⟨lt, kk, rfl, rfl, rfl, hs, hel, cth, cel, vth, vel⟩ := h
 simp only at *
 have h8 : (b == 8) = (k == 8) := by
  rcases hb with ⟨rfl, rfl⟩ | ⟨rfl, rfl | rfl⟩ | ⟨rfl, rfl⟩ | ⟨rfl, rfl⟩ <;> rfl
 have hi : inn (⟨b, 0, 0, e0, th, el, has, p⟩ : Nd) i = inn (⟨k, 0, 0, e0, th, el, has, p⟩ : Nd) i := by unfold inn; simp only; rw [h8]
 have ho : own1 ns ⟨b, 0, 0, e0, th, el, has, p⟩ i = 0 := by
  have hne : ¬ i.1 = 32 := by omega
  rcases hb with ⟨rfl, rfl⟩ | ⟨rfl, rfl | rfl⟩ | ⟨rfl, rfl⟩ | ⟨rfl, rfl⟩
  ·rcases hel with rfl | h' | h'
   ·simp [own1, R.uses, R.usesF, e0_list, fits, R.strc, hne]
   ·subst h'
    simp [own1, R.uses, R.usesF, e0_list, fits, R.strc, hne]
   ·omega
  ·obtain rfl : has = false := by cases has with | false => rfl | true => exact absurd (hs rfl) (by decide)
   obtain rfl : el = [] := by rcases hel with h' | h' | h'; exact h'; cases h'; omega
   simp [own1, R.uses, R.usesF, e0_list, fits, R.strc, hne]
  ·obtain rfl : has = false := by cases has with | false => rfl | true => exact absurd (hs rfl) (by decide)
   obtain rfl : el = [] := by rcases hel with h' | h' | h'; exact h'; cases h'; omega
   simp [own1, R.uses, R.usesF, e0_list, fits, R.strc, hne]
  ·obtain rfl : has = false := by cases has with | false => rfl | true => exact absurd (hs rfl) (by decide)
   simp [own1, R.uses, R.usesF, e0_list, fits, R.strc, hne]
  ·obtain rfl : has = false := by cases has with | false => rfl | true => exact absurd (hs rfl) (by decide)
   obtain rfl : el = [] := by rcases hel with h' | h' | h'; exact h'; cases h'; omega
   simp [own1, R.uses, R.usesF, e0_list, fits, R.strc, hne]
 refine ⟨?_, ?_⟩
 ·show ck ns ⟨b, 0, 0, e0, th, el, has, p⟩ i = 0
  rw [R.ck_is, if_pos ho]
  simp only
  rw [hi, if_pos cth]
  exact cel
 ·show vn ⟨b, 0, 0, e0, th, el, has, p⟩ = true
  rw [vn_is, vth, vel]
  simp only [Bool.and_self, Bool.and_true, Bool.or_eq_true, bne_iff_ne, ne_eq]
  left
  omega
end Go.Proofs.YtdnklgceghllaaaGreatDoor.M
namespace Go.Proofs.YtdnklgceghllaaaGreatDoor.M
open Go.RowKit
open Go.Proofs
open Go.Proofs.YtdnklgceghllaaaGreatDoor.K (Tk kd Gd ans)
open Go.Proofs.YtdnklgceghllaaaGreatDoor.Y (Nd Df Ps Bk e0)
open Go.Proofs.YtdnklgceghllaaaGreatDoor.D (Rd Er Re next must add put begin_ close turnElse turnWhile leave finish ctl isW lit prm cll ext setK setHas standIn node bodyN known PM name word define item numbered dataN bank itemsN rd0 rres read_is)
open Go.Proofs.YtdnklgceghllaaaGreatDoor.R (ck cks own1 fits inn isNm lk dfE dsE bkE chk)
set_option linter.unusedVariables false
set_option linter.unusedSimpArgs false
set_option maxRecDepth 100000
structure KS (r r' : Rd) : Prop where
 rest : r'.rest = r.rest
 defs : r'.defs = r.defs
 banks : r'.banks = r.banks
theorem ks_add (n : Nd) (r : Rd) : KS r (D.add n r) := by
 unfold D.add
 split <;> exact ⟨rfl, rfl, rfl⟩
theorem begin_bi {ns : List ByteArray} {r r' : Rd} {k : Int} (hk : k = 0 \/ k = 4 \/ k = 8) (hb : BI ns r) (h : begin_ k r = .ok r') : BI ns r' /\ KS r r' := by
 unfold begin_ must at h
 by_cases hl : r.opn.length < 32
 ·rw [if_pos (by simpa using hl), ok_bind] at h
  obtain rfl := Except.ok.inj h
  refine ⟨hb.push _ ⟨hl, (by show k = 0 \/ k = 4 \/ k = 6 \/ k = 8; omega), rfl, rfl, rfl, (fun c => by cases c), .inl rfl, rfl, rfl, rfl, rfl⟩, rfl, rfl, rfl⟩
 ·rw [if_neg (by simpa using hl)] at h
  cases h
theorem opn_cases (r : Rd) : r.opn = [] \/ ∃ o t, r.opn = o ++ [t] := by
 rcases List.eq_nil_or_concat r.opn with e | ⟨o, t, e⟩
 ·exact .inl e
 ·exact .inr ⟨o, t, by rw [e, List.concat_eq_append]⟩
theorem close_bi {ns : List ByteArray} {r r' : Rd} {k b : Int} (hkb : (k = 4 /\ b = 4) \/ (k = 0 /\ (b = 5 \/ b = 7)) \/ (k = 6 /\ b = 6) \/ (k = 8 /\ b = 8)) (hb : BI ns r) (h : close k b r = .ok r') : BI ns r' /\ KS r r' := by
 unfold close must standIn at h
 rcases opn_cases r with e | ⟨o, t, e⟩
 ·simp only [e, List.getLast?_nil] at h
  cases h
 ·simp only [e, List.getLast?_concat, List.dropLast_concat] at h
  by_cases hk : t.k = k
  ·rw [if_pos (by simpa using hk), ok_bind] at h
   obtain rfl := Except.ok.inj h
   have ht := hb.top e
   obtain ⟨c1, c2⟩ := ck_close ht b (by rw [hk]; exact hkb)
   have hp := hb.pop e
   have := ks_add (setK t b) { r with opn := o }
   exact ⟨hp.add _ c1 c2, this.rest, this.defs, this.banks⟩
  ·rw [if_neg (by simpa using hk)] at h
   cases h
theorem else_bi {ns : List ByteArray} {r r' : Rd} (hb : BI ns r) (h : turnElse r = .ok r') : BI ns r' /\ KS r r' := by
 unfold turnElse must standIn at h
 rcases opn_cases r with e | ⟨o, t, e⟩
 ·simp only [e, List.getLast?_nil] at h
  cases h
 ·simp only [e, List.getLast?_concat, List.dropLast_concat] at h
  by_cases hk : t.k = 4
  ·rw [if_pos (by simpa using hk), ok_bind] at h
   cases hh : t.has with
   | true => rw [hh] at h; cases h
   | false =>
    rw [hh] at h
    obtain rfl := Except.ok.inj h
    have ht := hb.top e
    exact ⟨hb.setTop e (setHas t) ⟨ht.lt, ht.kk, ht.op, ht.v, ht.nm, fun _ => hk, .inr (.inl rfl), ht.cth, ht.cel, ht.vth, ht.vel⟩, rfl, rfl, rfl⟩
  ·rw [if_neg (by simpa using hk)] at h
   cases h
theorem while_bi {ns : List ByteArray} {r r' : Rd} (hb : BI ns r) (h : turnWhile r = .ok r') : BI ns r' /\ KS r r' := by
 unfold turnWhile must standIn at h
 rcases opn_cases r with e | ⟨o, t, e⟩
 ·simp only [e, List.getLast?_nil] at h
  cases h
 ·simp only [e, List.getLast?_concat, List.dropLast_concat] at h
  by_cases hk : t.k = 0
  ·rw [if_pos (by simpa using hk), ok_bind] at h
   obtain rfl := Except.ok.inj h
   have ht := hb.top e
   have hin : inn (setK t 6) (iAt o) = inn t (iAt o) := by unfold inn setK; rw [hk]; rfl
   exact ⟨hb.setTop e (setK t 6) ⟨ht.lt, .inr (.inr (.inl rfl)), ht.op, ht.v, ht.nm, fun c => by have := ht.has c; omega, .inr (.inr rfl), by rw [hin]; exact ht.cth, by rw [hin]; exact ht.cel, ht.vth, ht.vel⟩, rfl, rfl, rfl⟩
  ·rw [if_neg (by simpa using hk)] at h
   cases h
theorem leave_bi {ns : List ByteArray} {r r' : Rd} (hb : BI ns r) (h : leave r = .ok r') : BI ns r' /\ KS r r' := by
 unfold leave must at h
 cases hd : r.opn.any fun n => n.k == 8 with
 | true => rw [hd] at h; cases h
 | false =>
  rw [hd] at h
  obtain rfl := Except.ok.inj h
  exact ⟨hb.add _ (ck_leaf (own_ext ns _ _ hd) rfl rfl) (vn_leaf (fun c => by cases c) rfl rfl), ks_add _ r⟩
theorem finish_bi {ns : List ByteArray} {r r' : Rd} (hb : BI ns r) (h : finish r = .ok r') : BI ns r' /\ KS r r' := by
 unfold finish must at h
 by_cases hl : r.opn.length = 0
 ·rw [if_pos (by simpa using hl), ok_bind] at h
  obtain rfl := Except.ok.inj h
  exact ⟨⟨hb.nms, hb.bod, hb.vb, hb.opn⟩, rfl, rfl, rfl⟩
 ·rw [if_neg (by simpa using hl)] at h
  cases h
theorem ite_some {α : Type} {c : Prop} [Decidable c] {a f : α} {b : Option α} (h : (if c then some a else b) = some f) : a = f \/ b = some f := by
 by_cases hc : c
 ·rw [if_pos hc] at h; exact .inl (Option.some.inj h)
 ·rw [if_neg hc] at h; exact .inr h
theorem ctl_bi {ns : List ByteArray} {s : ByteArray} {f : Rd -> Re} (hc : ctl s = some f) {r r' : Rd} (hb : BI ns r) (h : f r = .ok r') : BI ns r' /\ KS r r' := by
 unfold ctl at hc
 rcases ite_some hc with rfl | hc
 ·exact begin_bi (by omega) hb h
 rcases ite_some hc with rfl | hc
 ·exact else_bi hb h
 rcases ite_some hc with rfl | hc
 ·exact close_bi (by omega) hb h
 rcases ite_some hc with rfl | hc
 ·exact begin_bi (by omega) hb h
 rcases ite_some hc with rfl | hc
 ·exact close_bi (by omega) hb h
 rcases ite_some hc with rfl | hc
 ·exact close_bi (by omega) hb h
 rcases ite_some hc with rfl | hc
 ·exact while_bi hb h
 rcases ite_some hc with rfl | hc
 ·exact close_bi (by omega) hb h
 rcases ite_some hc with rfl | hc
 ·exact begin_bi (by omega) hb h
 rcases ite_some hc with rfl | hc
 ·exact close_bi (by omega) hb h
 rcases ite_some hc with rfl | hc
 ·exact leave_bi hb h
 rcases ite_some hc with rfl | hc
 ·exact finish_bi hb h
 cases hc
theorem node_bi {ns : List ByteArray} {r r' : Rd} (hg : GT r.at_) (hb : BI ns r) (h : node (lk PM) r = .ok r') : BI ns r' /\ KS r r' := by
 unfold node at h
 split at h
 ·obtain rfl := Except.ok.inj h
  refine ⟨hb.add _ (ck_leaf (own_lit ns _ _ _) rfl rfl) (vn_leaf (fun _ => ?_) rfl rfl), ks_add _ r⟩
  show 0 <= r.at_.v /\ r.at_.v <= 65535
  rw [hg.wf.2]
  exact numC_in16 _
 ·split at h
  ·rename_i f hc
   exact ctl_bi hc hb h
  ·split at h
   ·rename_i hk
    obtain rfl := Except.ok.inj h
    refine ⟨hb.add _ (ck_leaf (own_cll ns _ _ _ ?_) rfl rfl) (vn_leaf (fun c => by cases c) rfl rfl), ks_add _ r⟩
    unfold known at hk
    rw [hb.nms] at hk
    exact hk
   ·split at h
    ·rename_i op hp
     obtain rfl := Except.ok.inj h
     exact ⟨hb.add _ (ck_leaf (own_prm ns _ _ _ (prim_in hg.gd.ne hp)) rfl rfl) (vn_leaf (fun c => by cases c) rfl rfl), ks_add _ r⟩
    ·cases h
theorem next_is {e : Ps} {r r' : Rd} (h : next e r = .ok r') : ∃ t ts, r.rest = t :: ts /\ r' = { r with at_ := t, rest := ts } := by
 unfold next at h
 split at h
 ·cases h
 ·rename_i t ts hr
  exact ⟨t, ts, hr, (Except.ok.inj h).symm⟩
theorem bind_ok {α β : Type} {x : Except Er α} {f : α -> Except Er β} {b : β} (h : (x >>= f) = .ok b) : ∃ a, x = .ok a /\ f a = .ok b := by
 cases x with
 | error e => cases h
 | ok a => exact ⟨a, rfl, h⟩
theorem must_ok {b : Bool} {t : Tk} {c : Int} {u : Unit} (h : must b t c = .ok u) : b = true := by
 unfold must at h
 cases b with
 | true => rfl
 | false => cases h
theorem body_bi {ns : List ByteArray} (e : Ps) : ∀ (n : Nat) (r r' : Rd), (∀ t ∈ r.rest, GT t) -> BI ns r -> bodyN (lk PM) e n r = .ok r' -> BI ns r' /\ r'.defs = r.defs /\ r'.banks = r.banks /\ ∀ t ∈ r'.rest, GT t
 | 0, r, r', hg, hb, h => by
  obtain rfl := Except.ok.inj h
  exact ⟨hb, rfl, rfl, hg⟩
 | n + 1, r, r', hg, hb, h => by
  rw [bodyN] at h
  split at h
  ·obtain rfl := Except.ok.inj h
   exact ⟨hb, rfl, rfl, hg⟩
  ·have hh := bind_ok h
   clear h
   obtain ⟨r1, h1, h⟩ := hh
   have hh := bind_ok h
   clear h
   obtain ⟨r2, h2, h⟩ := hh
   obtain ⟨t, ts, hr, rfl⟩ := next_is h1
   rw [hr] at hg
   obtain ⟨b2, k2⟩ := node_bi (hg t (by simp)) (hb.move ts t) h2
   obtain ⟨q1, q2, q3, q4⟩ := body_bi e n r2 r' (fun x hx => by rw [k2.rest] at hx; exact hg x (by simp [show x ∈ ts from hx])) b2 h
   exact ⟨q1, by rw [q2, k2.defs], by rw [q3, k2.banks], q4⟩
structure DI (r : Rd) : Prop where
 ds : dsE [] r.defs = 0
 vv : r.defs.all vd = true
 bk : ∀ b ∈ r.banks, 0 <= b.1 /\ b.1 < 16 /\ b.2.length <= 16384
 nod : (r.banks.map (·.1)).Nodup
 gt : ∀ t ∈ r.rest, GT t
theorem dsE_snoc : ∀ (l : List Df) (ns : List ByteArray) (d : Df), dsE ns l = 0 -> dfE (ns ++ l.map (·.nm)) d = 0 -> dsE ns (l ++ [d]) = 0
 | [], ns, d, _, h => by
  rw [List.nil_append, dsE, if_pos (by simpa using h)]
  rfl
 | a :: l, ns, d, h, h2 => by
  obtain ⟨h3, h4⟩ := dsE_cons h
  rw [List.cons_append, dsE, if_pos h3]
  exact dsE_snoc l (ns ++ [a.nm]) d h4 (by simpa using h2)
theorem name_is {e : Ps} {r r' : Rd} (h : name e r = .ok r') : ∃ t ts, r.rest = t :: ts /\ r' = { r with at_ := t, rest := ts } /\ isNm t.t = true /\ known r t.t = false := by
 unfold name at h
 have hh := bind_ok h
 clear h
 obtain ⟨r1, h1, h⟩ := hh
 have hh := bind_ok h
 clear h
 obtain ⟨u, h2, h⟩ := hh
 have hh := bind_ok h
 clear h
 obtain ⟨u', h3, h⟩ := hh
 obtain ⟨t, ts, hr, rfl⟩ := next_is h1
 obtain rfl := Except.ok.inj h
 have m2 := must_ok h2
 have m3 := must_ok h3
 have m4 : (!known r t.t) = true := m3
 exact ⟨t, ts, hr, rfl, m2, by simpa using m4⟩
theorem DI.define {r : Rd} (h : DI r) (k : Int) (t : Tk) (v : Int) (body : List Nd) (ts : List Tk) (r1 : Rd) (hr1 : r1.defs = r.defs) (hb1 : r1.banks = r.banks) (hg1 : ∀ t ∈ r1.rest, GT t) (hn : isNm t.t = true) (hk : known r t.t = false) (hf : R.fieldsF k v body.isEmpty = true) (h16 : 0 <= v /\ v <= 65535) (h3 : k = 3 -> v <= 16384) (hc : cks (r.defs.map (·.nm)) body (0, false) = 0) (hv : vns body = true) : DI (D.define k t v body r1) := by
 have hd : dfE (r.defs.map (·.nm)) ⟨k, t.t, v, body, t.p⟩ = 0 := by
  unfold dfE
  rw [hf, hn]
  unfold known at hk
  simp only [hk]
  rw [if_neg (by decide), if_neg (by decide), if_neg (by decide), if_neg (by omega)]
  exact hc
 refine ⟨?_, ?_, ?_, ?_, hg1⟩
 ·show dsE [] (r1.defs ++ [_]) = 0
  rw [hr1]
  exact dsE_snoc _ _ _ h.ds (by simpa using hd)
 ·show (r1.defs ++ [_]).all vd = true
  rw [hr1, List.all_append, h.vv]
  simp [vd, h16.1, h16.2, hv]
 ·show ∀ b ∈ r1.banks, _
  rw [hb1]; exact h.bk
 ·show (r1.banks.map _).Nodup
  rw [hb1]; exact h.nod
theorem data_len (e : Ps) : ∀ (n : Nat) (d : List UInt8) (r : Rd) (x : List UInt8 × Rd), d.length <= 16384 -> dataN e n d r = .ok x -> (∀ t ∈ r.rest, GT t) -> x.1.length <= 16384 /\ x.2.defs = r.defs /\ x.2.banks = r.banks /\ ∀ t ∈ x.2.rest, GT t
 | 0, d, r, x, hd, h, hg => by
  obtain rfl := Except.ok.inj h
  exact ⟨hd, rfl, rfl, hg⟩
 | n + 1, d, r, x, hd, h, hg => by
  unfold dataN at h
  have hh := bind_ok h
  clear h
  obtain ⟨r1, h1, h⟩ := hh
  obtain ⟨t, ts, hr, rfl⟩ := next_is h1
  rw [hr] at hg
  split at h
  ·obtain rfl := Except.ok.inj h
   exact ⟨hd, rfl, rfl, fun y hy => hg y (by simp [show y ∈ ts from hy])⟩
  ·have hh := bind_ok h
   clear h
   obtain ⟨u, h2, h⟩ := hh
   have m := must_ok h2
   simp only [Bool.and_eq_true, decide_eq_true_eq] at m
   have q := fun a b => data_len e n _ _ x a h b
   exact q (by rw [List.length_append]; simp only [List.length_cons, List.length_nil]; omega) (fun y hy => hg y (by simp [show y ∈ ts from hy]))
theorem num_v {t : Tk} (h : GT t) : 0 <= t.v /\ t.v <= 65535 := by rw [h.wf.2]; exact numC_in16 _
theorem item_di {e : Ps} {r r' : Rd} (h : DI r) (hi : item (lk PM) e r = .ok r') : DI r' := by
 unfold item at hi
 have hh := bind_ok hi
 clear hi
 obtain ⟨r1, h1, hi⟩ := hh
 obtain ⟨t0, ts, hr, rfl⟩ := next_is h1
 have hg := h.gt
 rw [hr] at hg
 have hg0 := hg t0 (by simp)
 have hg1 : ∀ t ∈ ts, GT t := fun t ht => hg t (by simp [ht])
 split at hi
 ·unfold numbered at hi
  have hh := bind_ok hi
  clear hi
  obtain ⟨r2, h2, hi⟩ := hh
  obtain ⟨t1, ts1, hr1, rfl⟩ := next_is h2
  have hr1' : ts = t1 :: ts1 := hr1
  rw [hr1'] at hg1
  split at hi
  ·have hh := bind_ok hi
   clear hi
   obtain ⟨r3, h3, hi⟩ := hh
   obtain ⟨t2, ts2, hr2, rfl, n1, n2⟩ := name_is h3
   have hr2' : ts1 = t2 :: ts2 := hr2
   obtain rfl := Except.ok.inj hi
   exact h.define 2 t2 t0.v [] ts2 _ rfl rfl (fun t ht => hg1 t (by rw [hr2']; simp [show t ∈ ts2 from ht])) n1 n2 rfl (num_v hg0) (fun c => by cases c) rfl rfl
  ·split at hi
   ·have hh := bind_ok hi
    clear hi
    obtain ⟨u, hm, hi⟩ := hh
    have hh := bind_ok hi
    clear hi
    obtain ⟨r3, h3, hi⟩ := hh
    obtain ⟨t2, ts2, hr2, rfl, n1, n2⟩ := name_is h3
    have hr2' : ts1 = t2 :: ts2 := hr2
    obtain rfl := Except.ok.inj hi
    have m := must_ok hm
    exact h.define 3 t2 t0.v [] ts2 _ rfl rfl (fun t ht => hg1 t (by rw [hr2']; simp [show t ∈ ts2 from ht])) n1 n2 rfl (num_v hg0) (fun _ => by simpa using m) rfl rfl
   ·split at hi
    ·unfold bank at hi
     have hh := bind_ok hi
     clear hi
     obtain ⟨u, hm, hi⟩ := hh
     have hh := bind_ok hi
     clear hi
     obtain ⟨u2, hm2, hi⟩ := hh
     have hh := bind_ok hi
     clear hi
     obtain ⟨r3, h3, hi⟩ := hh
     have hh := bind_ok hi
     clear hi
     obtain ⟨u3, hm3, hi⟩ := hh
     have hh := bind_ok hi
     clear hi
     obtain ⟨x, h4, hi⟩ := hh
     obtain ⟨t2, ts2, hr2, rfl⟩ := next_is h3
     have hr2' : ts1 = t2 :: ts2 := hr2
     obtain ⟨q1, q2, q3, q4⟩ := data_len e _ _ _ x (by simp) h4 (fun t ht => hg1 t (by rw [hr2']; simp [show t ∈ ts2 from ht]))
     obtain rfl := Except.ok.inj hi
     have m := must_ok hm
     have m2 := must_ok hm2
     rw [decide_eq_true_eq] at m
     have hnot : ∀ b ∈ r.banks, b.1 ≠ t0.v := fun b hb c => by
      have : (r.banks.any fun b => b.1 == t0.v) = true := List.any_eq_true.2 ⟨b, hb, by simpa using c⟩
      simp only [this, Bool.not_true, Bool.false_eq_true] at m2
     refine ⟨by show dsE [] x.2.defs = 0; rw [q2]; exact h.ds, by show x.2.defs.all vd = true; rw [q2]; exact h.vv, ?_, ?_, q4⟩
     ·show ∀ b ∈ x.2.banks ++ [(t0.v, x.1)], _
      rw [q3]
      intro b hb
      rcases List.mem_append.1 hb with hb | hb
      ·exact h.bk b hb
      ·rw [List.mem_singleton] at hb
       rw [hb]
       exact ⟨(num_v hg0).1, m, q1⟩
     ·show ((x.2.banks ++ [(t0.v, x.1)]).map _).Nodup
      rw [q3, List.map_append, List.nodup_append]
      refine ⟨h.nod, by simp, ?_⟩
      intro a ha c hc
      obtain ⟨b, hb, rfl⟩ := List.mem_map.1 ha
      simp only [List.map_cons, List.map_nil, List.mem_singleton] at hc
      rw [hc]
      exact hnot b hb
    ·cases hi
 ·split at hi
  ·unfold word at hi
   have hh := bind_ok hi
   clear hi
   obtain ⟨r3, h3, hi⟩ := hh
   have hh := bind_ok hi
   clear hi
   obtain ⟨r4, h4, hi⟩ := hh
   obtain ⟨t2, ts2, hr2, rfl, n1, n2⟩ := name_is h3
   have hr2' : ts = t2 :: ts2 := hr2
   obtain rfl := Except.ok.inj hi
   have hg2 : ∀ t ∈ ts2, GT t := fun t ht => hg1 t (by rw [hr2']; simp [ht])
   obtain ⟨b1, b2, b3, b4⟩ := body_bi (ns := r.defs.map (·.nm)) e _ _ r4 hg2 ⟨rfl, rfl, rfl, fun j t ht => by simp at ht⟩ h4
   exact h.define 1 t2 0 r4.body ts2 r4 b2 b3 b4 n1 n2 rfl (by omega) (fun c => by cases c) b1.bod b1.vb
  ·split at hi
   ·have hh := bind_ok hi
    clear hi
    obtain ⟨r3, h3, hi⟩ := hh
    obtain ⟨t2, ts2, hr2, rfl, n1, n2⟩ := name_is h3
    have hr2' : ts = t2 :: ts2 := hr2
    obtain rfl := Except.ok.inj hi
    exact h.define 3 t2 2 [] ts2 _ rfl rfl (fun t ht => hg1 t (by rw [hr2']; simp [show t ∈ ts2 from ht])) n1 n2 rfl (by omega) (fun _ => by omega) rfl rfl
   ·cases hi
theorem items_di (e : Ps) : ∀ (n : Nat) (r r' : Rd), DI r -> itemsN (lk PM) e n r = .ok r' -> DI r'
 | 0, r, r', h, hi => by
  obtain rfl := Except.ok.inj hi
  exact h
 | n + 1, r, r', h, hi => by
  rw [itemsN] at hi
  split at hi
  ·obtain rfl := Except.ok.inj hi
   exact h
  ·have hh := bind_ok hi
   clear hi
   obtain ⟨r1, h1, hi⟩ := hh
   exact items_di e n r1 r' (item_di h h1) hi
theorem bkE_of : ∀ (bs : List Bk) (z : Int), (∀ b ∈ bs, 0 <= b.1 /\ b.1 < 16 /\ b.2.length <= 16384) -> bs.Pairwise (fun a b => a.1 < b.1) -> (∀ b ∈ bs, z < b.1) -> bkE z bs = 0
 | [], z, _, _, _ => rfl
 | b :: bs, z, h, hp, hz => by
  obtain ⟨p1, p2⟩ := List.pairwise_cons.1 hp
  have h1 := h b (by simp)
  have h2 := hz b (by simp)
  rw [bkE, if_neg (by omega), if_neg (by omega)]
  exact bkE_of bs b.1 (fun x hx => h x (by simp [hx])) p2 p1
theorem read_chk (e : Ps) (ts : List Tk) (hg : ∀ t ∈ ts, GT t) (ds : List Df) (bs : List Bk) (h : D.read (lk PM) e ts = .ok (ds, bs)) : chk ds bs = 0 /\ ds.all vd = true := by
 rw [read_is] at h
 cases hi : itemsN (lk PM) e (ts.length + 1) (rd0 ts) with
 | error x => rw [hi] at h; cases h
 | ok r =>
  rw [hi] at h
  have hd := items_di e _ (rd0 ts) r ⟨rfl, rfl, (fun b hb => by cases hb), List.nodup_nil, hg⟩ hi
  change (if r.defs.any R.isMain = true then Except.ok (r.defs, r.banks.mergeSort fun a b => decide (a.1 <= b.1)) else _) = _ at h
  split at h
  ·rename_i hm
   simp only [Except.ok.injEq, Prod.mk.injEq] at h
   obtain ⟨rfl, rfl⟩ := h
   refine ⟨?_, hd.vv⟩
   have hperm := List.mergeSort_perm r.banks (fun a b => decide (a.1 <= b.1))
   have hle := List.pairwise_mergeSort (le := fun (a b : Bk) => decide (a.1 <= b.1)) (fun a b c h1 h2 => by simp only [decide_eq_true_eq] at *; omega) (fun a b => by simp only [Bool.or_eq_true, decide_eq_true_eq]; omega) r.banks
   have hnd : ((r.banks.mergeSort fun a b => decide (a.1 <= b.1)).map (·.1)).Nodup := (hperm.map _).nodup_iff.2 hd.nod
   have hlt : (r.banks.mergeSort fun a b => decide (a.1 <= b.1)).Pairwise (fun a b => a.1 < b.1) := by
    have h2 := List.pairwise_map.1 hnd
    exact (hle.and h2).imp fun {a b} h => by
     have h1 := h.1
     have h2 := h.2
     simp only [decide_eq_true_eq] at h1
     omega
   have hmem : ∀ b ∈ (r.banks.mergeSort fun a b => decide (a.1 <= b.1)), 0 <= b.1 /\ b.1 < 16 /\ b.2.length <= 16384 := fun b hb => hd.bk b (hperm.mem_iff.1 hb)
   unfold chk
   rw [if_pos hd.ds, bkE_of _ (-1) hmem hlt (fun b hb => by have := (hmem b hb).1; omega), if_pos rfl, if_pos hm]
  ·cases h
theorem pans_chk (s : ByteArray) (ds : List Df) (bs : List Bk) (h : pans s = .ok (ds, bs)) : chk ds bs = 0 /\ ds.all vd = true := by
 unfold pans at h
 split at h
 ·exact read_chk _ _ (ans_gt s) ds bs h
 ·cases h
end Go.Proofs.YtdnklgceghllaaaGreatDoor.M
namespace Go.Proofs.YtdnklgceghllaaaGreatDoor.M
open Go.RowKit
open Go.Proofs
open Go.Proofs.YtdnklgceghllaaaGreatDoor.K (Tk ans)
open Go.Proofs.YtdnklgceghllaaaGreatDoor.Y (Nd Df Ps Bk e0)
open Go.Proofs.YtdnklgceghllaaaGreatDoor.D (Rd Er Re next must add begin_ close turnElse turnWhile leave finish ctl isW standIn node bodyN PM name word define item numbered dataN bank itemsN rd0 rres read_is)
open Go.Proofs.YtdnklgceghllaaaGreatDoor.R (isNm lk dsE bkE chk)
set_option linter.unusedVariables false
set_option linter.unusedSimpArgs false
set_option maxRecDepth 100000
def NZ {α : Type} (x : Except Er α) : Prop := ∀ er, x = .error er -> er.2 ≠ 0
theorem nz_ok {α : Type} (a : α) : NZ (.ok a : Except Er α) := fun er h => by cases h
theorem nz_er {α : Type} (p : Ps) (c : Int) (h : c ≠ 0) : NZ (.error (p, c) : Except Er α) := fun er he => by cases he; exact h
theorem nz_bind {α β : Type} {x : Except Er α} {f : α -> Except Er β} (h : NZ x) (k : ∀ a, NZ (f a)) : NZ (x >>= f) := by
 cases x with
 | error e => intro er he; cases he; exact h e rfl
 | ok a => exact k a
theorem nz_ite {α : Type} {c : Prop} [Decidable c] {x y : Except Er α} (h : NZ x) (k : NZ y) : NZ (if c then x else y) := by
 split
 ·exact h
 ·exact k
theorem nz_must (b : Bool) (t : Tk) (c : Int) (h : c ≠ 0) : NZ (must b t c) := nz_ite (nz_ok _) (nz_er _ _ h)
theorem nz_next (e : Ps) (r : Rd) : NZ (next e r) := by
 unfold next
 split
 ·exact nz_er _ _ (by decide)
 ·exact nz_ok _
theorem nz_ctl {s : ByteArray} {f : Rd -> Re} (hc : ctl s = some f) (r : Rd) : NZ (f r) := by
 have b1 : ∀ k r, NZ (begin_ k r) := fun k r => nz_bind (nz_must _ _ _ (by decide)) fun _ => nz_ok _
 have b2 : ∀ k b r, NZ (close k b r) := fun k b r => nz_bind (nz_must _ _ _ (by decide)) fun _ => by
  split
  ·exact nz_ok _
  ·exact nz_ok _
 have b3 : ∀ r, NZ (turnElse r) := fun r => nz_bind (nz_must _ _ _ (by decide)) fun _ => by
  split
  ·exact nz_ok _
  ·exact nz_bind (nz_must _ _ _ (by decide)) fun _ => nz_ok _
 have b4 : ∀ r, NZ (turnWhile r) := fun r => nz_bind (nz_must _ _ _ (by decide)) fun _ => by
  split
  ·exact nz_ok _
  ·exact nz_ok _
 have b5 : ∀ r, NZ (leave r) := fun r => nz_bind (nz_must _ _ _ (by decide)) fun _ => nz_ok _
 have b6 : ∀ r, NZ (finish r) := fun r => nz_bind (nz_must _ _ _ (by decide)) fun _ => nz_ok _
 unfold ctl at hc
 rcases ite_some hc with rfl | hc
 ·exact b1 _ _
 rcases ite_some hc with rfl | hc
 ·exact b3 _
 rcases ite_some hc with rfl | hc
 ·exact b2 _ _ _
 rcases ite_some hc with rfl | hc
 ·exact b1 _ _
 rcases ite_some hc with rfl | hc
 ·exact b2 _ _ _
 rcases ite_some hc with rfl | hc
 ·exact b2 _ _ _
 rcases ite_some hc with rfl | hc
 ·exact b4 _
 rcases ite_some hc with rfl | hc
 ·exact b2 _ _ _
 rcases ite_some hc with rfl | hc
 ·exact b1 _ _
 rcases ite_some hc with rfl | hc
 ·exact b2 _ _ _
 rcases ite_some hc with rfl | hc
 ·exact b5 _
 rcases ite_some hc with rfl | hc
 ·exact b6 _
 cases hc
theorem nz_node (r : Rd) : NZ (node (lk PM) r) := by
 unfold node
 split
 ·exact nz_ok _
 ·split
  ·rename_i f hc
   exact nz_ctl hc r
  ·split
   ·exact nz_ok _
   ·split
    ·exact nz_ok _
    ·exact nz_er _ _ (by split <;> decide)
theorem nz_body (e : Ps) : ∀ (n : Nat) (r : Rd), NZ (bodyN (lk PM) e n r)
 | 0, r => nz_ok _
 | n + 1, r => by
  rw [bodyN]
  exact nz_ite (nz_ok _) (nz_bind (nz_next e r) fun a => nz_bind (nz_node a) fun b => nz_body e n b)
theorem nz_name (e : Ps) (r : Rd) : NZ (name e r) := nz_bind (nz_next e r) fun a => nz_bind (nz_must _ _ _ (by decide)) fun _ => nz_bind (nz_must _ _ _ (by decide)) fun _ => nz_ok _
theorem nz_data (e : Ps) : ∀ (n : Nat) (d : List UInt8) (r : Rd), NZ (dataN e n d r)
 | 0, d, r => nz_ok _
 | n + 1, d, r => by
  rw [dataN]
  exact nz_bind (nz_next e r) fun a => nz_ite (nz_ok _) (nz_bind (nz_must _ _ _ (by decide)) fun _ => nz_data e n _ _)
theorem nz_bank (e : Ps) (t : Tk) (r : Rd) : NZ (bank e t r) := by
 unfold bank
 exact nz_bind (nz_must _ _ _ (by decide)) fun _ => nz_bind (nz_must _ _ _ (by decide)) fun _ => nz_bind (nz_next e r) fun a => nz_bind (nz_must _ _ _ (by decide)) fun _ => nz_bind (nz_data e _ _ _) fun x => nz_ok _
theorem nz_item (e : Ps) (r : Rd) : NZ (item (lk PM) e r) := by
 unfold item
 refine nz_bind (nz_next e r) fun a => nz_ite ?_ (nz_ite ?_ (nz_ite ?_ (nz_er _ _ (by decide))))
 ·unfold numbered
  exact nz_bind (nz_next e a) fun b => nz_ite (nz_bind (nz_name e b) fun _ => nz_ok _) (nz_ite (nz_bind (nz_must _ _ _ (by decide)) fun _ => nz_bind (nz_name e b) fun _ => nz_ok _) (nz_ite (nz_bank e _ b) (nz_er _ _ (by decide))))
 ·unfold word
  exact nz_bind (nz_name e a) fun b => nz_bind (nz_body e _ _) fun _ => nz_ok _
 ·exact nz_bind (nz_name e a) fun _ => nz_ok _
theorem nz_items (e : Ps) : ∀ (n : Nat) (r : Rd), NZ (itemsN (lk PM) e n r)
 | 0, r => nz_ok _
 | n + 1, r => by
  rw [itemsN]
  exact nz_ite (nz_ok _) (nz_bind (nz_item e r) fun a => nz_items e n a)
theorem nz_read (e : Ps) (ts : List Tk) : NZ (D.read (lk PM) e ts) := by
 rw [read_is]
 have := nz_items e (ts.length + 1) (rd0 ts)
 cases h : itemsN (lk PM) e (ts.length + 1) (rd0 ts) with
 | error x => rw [h] at this; intro er he; cases he; exact this x rfl
 | ok r => exact nz_ite (nz_ok _) (nz_er _ _ (by decide))
theorem pans_nz (s : ByteArray) : NZ (pans s) := by
 unfold pans
 split
 ·exact nz_read _ _
 ·rename_i h
  exact nz_er _ _ h
theorem sml_both : ∀ (l l' : List Nd), sml l l' = true -> (∀ m ∈ l, ∀ n', sm m n' = true -> nw m = nw n') -> nws l = nws l'
 | [], [], _, _ => rfl
 | [], _ :: _, h, _ => by cases h
 | _ :: _, [], h, _ => by cases h
 | a :: l, b :: l', h, k => by
  rw [sml_cc, Bool.and_eq_true] at h
  rw [nws_cons, nws_cons, k a (by simp) b h.1, sml_both l l' h.2 fun m hm => k m (by simp [hm])]
theorem sm_nw (n : Nd) : ∀ n', sm n n' = true -> nw n = nw n' := by
 refine Y.Nd.ind (P := fun n => ∀ n', sm n n' = true -> nw n = nw n') ?_ n
 intro n h1 h2 n' h
 obtain ⟨k, op, v, nm, th, el, has, p⟩ := n
 obtain ⟨k', op', v', nm', th', el', has', p'⟩ := n'
 rw [sm_mk] at h
 simp only [Bool.and_eq_true, beq_iff_eq, decide_eq_true_eq] at h
 obtain ⟨rfl, rfl, rfl, rfl, rfl, a, b⟩ := h
 rw [nw_is, nw_is]
 simp only
 rw [sml_both th th' a h1, sml_both el el' b h2]
theorem sml_nws (l l' : List Nd) (h : sml l l' = true) : nws l = nws l' := sml_both l l' h fun m _ => sm_nw m
theorem smd_dw (d d' : Df) (h : smd d d' = true) : dw d = dw d' := by
 unfold smd at h
 simp only [Bool.and_eq_true, beq_iff_eq, decide_eq_true_eq] at h
 obtain ⟨a, b, c, e⟩ := h
 unfold dw
 rw [a, b, c, sml_nws _ _ e]
theorem smds_dtx : ∀ (ds ds' : List Df) (t : List UInt8), smds ds ds' = true -> dtx t ds = dtx t ds'
 | [], [], _, _ => rfl
 | [], _ :: _, _, h => by cases h
 | _ :: _, [], _, h => by cases h
 | d :: ds, d' :: ds', t, h => by
  rw [smds_cons, Bool.and_eq_true] at h
  show dtx (endL (puts t (dw d))) ds = dtx (endL (puts t (dw d'))) ds'
  rw [smd_dw d d' h.1]
  exact smds_dtx ds ds' _ h.2
theorem ptx_same (ds ds' : List Df) (bs : List Bk) (h : smds ds ds' = true) : ptx ds bs = ptx ds' bs := by
 unfold ptx
 rw [smds_dtx ds ds' [] h]
theorem bk_few : ∀ (bs : List Bk) (z : Int), -1 <= z -> z <= 15 -> bkE z bs = 0 -> (bs.length : Int) + z <= 15
 | [], z, h, h2, _ => by simpa using h2
 | b :: bs, z, h, h2, hb => by
  obtain ⟨h1, h2, h3, h4, h5⟩ := bkE_cons hb
  have := bk_few bs b.1 (by omega) (by omega) h5
  simp only [List.length_cons]
  omega
theorem chk_few {ds : List Df} {bs : List Bk} (h : chk ds bs = 0) : bs.length <= 140737488355328 := by
 have := bk_few bs (-1) (by omega) (by omega) (chk_is h).2.1
 omega
theorem chk_nms : ∀ (ds : List Df) (ns : List ByteArray), dsE ns ds = 0 -> ∀ d ∈ ds, d.nm.size <= maxLen
 | [], _, _, d, hd => by cases hd
 | d0 :: ds, ns, h, d, hd => by
  obtain ⟨h1, h2⟩ := dsE_cons h
  rcases List.mem_cons.1 hd with rfl | hd
  ·have := nm_size (dfE_is h1).2.1
   unfold maxLen
   omega
  ·exact chk_nms ds _ h2 d hd
end Go.Proofs.YtdnklgceghllaaaGreatDoor.M
