import Derived.Test.YtdnklgceghllaaaGreatDoorDPrims
import Derived.Test.YtdnklgceghllaaaGreatDoorDMath
import Derived.Test.YtdnklgceghllaaaGreatDoorKScan
import Derived.Test.YtdnklgceghllaaaGreatDoorMPrt
import Derived.Test.YtdnklgceghllaaaGreatDoorKTok
import Derived.Test.YtdnklgceghllaaaGreatDoorMSame
import Derived.Test.YtdnklgceghllaaaGreatDoorDSort
import Derived.Test.YtdnklgceghllaaaGreatDoorDRead
import Derived.Test.YtdnklgceghllaaaGreatDoorKScanW
import Derived.Test.YtdnklgceghllaaaGreatDoorMPar
import Derived.KernelRfl
namespace Go.Proofs.YtdnklgceghllaaaGreatDoor.M
open Go.Proofs.YtdnklgceghllaaaGreatDoor.K (Tk)
open Go.Proofs.YtdnklgceghllaaaGreatDoor.Y (Nd Df Ps e0)
open Go.Proofs.YtdnklgceghllaaaGreatDoor.D (Rd Er Re next must add ctl isW lit prm cll define known PM)
open Go.Proofs.YtdnklgceghllaaaGreatDoor.R (lk)
set_option linter.unusedVariables false
set_option maxRecDepth 100000
section
variable (rs im : ByteArray -> Bool) (kn : Rd -> ByteArray -> Bool) (pr : ByteArray -> Option Int) (e : Ps)
def nodeG (r : Rd) : Re :=
 if r.at_.k == 2 then .ok (add (lit r.at_.v r.at_.p) r)
 else match ctl r.at_.t with
 | some f => f r
 | none =>
  if kn r r.at_.t then .ok (add (cll r.at_.t r.at_.p) r)
  else match pr r.at_.t with
  | some op => .ok (add (prm op r.at_.p) r)
  | none => .error (r.at_.p, if rs r.at_.t then 104 else 103)
def bodyG : Nat -> Rd -> Re
 | 0, r => .ok r
 | n + 1, r => if r.ended then .ok r else do
  let r ← next e r
  let r ← nodeG rs kn pr r
  bodyG n r
def nameG (r : Rd) : Re := do
 let r ← next e r
 must (im r.at_.t) r.at_ 101
 must (!kn r r.at_.t) r.at_ 102
 .ok r
def wordG (r : Rd) : Re := do
 let r ← nameG im kn e r
 let t := r.at_
 let r ← bodyG rs kn pr e (r.rest.length + 1) { r with body := [], opn := [], ended := false }
 .ok (define 1 t 0 r.body r)
def numberedG (num : Tk) (r : Rd) : Re := do
 let r ← next e r
 if isW r.at_.t [99, 111, 110, 115, 116, 97, 110, 116] then do
  let r ← nameG im kn e r
  .ok (define 2 r.at_ num.v [] r)
 else if isW r.at_.t [98, 117, 102, 102, 101, 114] then do
  must (decide (num.v <= 16384)) num 106
  let r ← nameG im kn e r
  .ok (define 3 r.at_ num.v [] r)
 else if isW r.at_.t [98, 97, 110, 107] then D.bank e num r
 else .error (r.at_.p, 100)
def itemG (r : Rd) : Re := do
 let r ← next e r
 if r.at_.k == 2 then numberedG im kn e r.at_ r
 else if isW r.at_.t [58] then wordG rs im kn pr e r
 else if isW r.at_.t [118, 97, 114, 105, 97, 98, 108, 101] then do
  let r ← nameG im kn e r
  .ok (define 3 r.at_ 2 [] r)
 else .error (r.at_.p, 100)
def itemsG : Nat -> Rd -> Re
 | 0, r => .ok r
 | n + 1, r => if r.rest.isEmpty then .ok r else do
  let r ← itemG rs im kn pr e r
  itemsG n r
end
theorem bodyG_is (pr : ByteArray -> Option Int) (e : Ps) : ∀ (n : Nat), D.bodyN pr e n = bodyG R.isRes known pr e n
 | 0 => rfl
 | n + 1 => by
  funext r
  rw [D.bodyN, bodyG, bodyG_is pr e n]
  rfl
theorem wordG_is (pr : ByteArray -> Option Int) (e : Ps) : D.word pr e = wordG R.isRes R.isNm known pr e := by
 funext r
 unfold D.word wordG
 simp only [bodyG_is]
 rfl
theorem itemG_is (pr : ByteArray -> Option Int) (e : Ps) : D.item pr e = itemG R.isRes R.isNm known pr e := by
 funext r
 unfold D.item itemG
 rw [wordG_is]
 rfl
theorem itemsG_is (pr : ByteArray -> Option Int) (e : Ps) : ∀ (n : Nat) (r : Rd), D.itemsN pr e n r = itemsG R.isRes R.isNm known pr e n r
 | 0, r => rfl
 | n + 1, r => by
  rw [D.itemsN, itemsG, itemG_is, show D.itemsN pr e n = itemsG R.isRes R.isNm known pr e n from funext (itemsG_is pr e n)]
theorem list_inj {a b : ByteArray} (h : a.data.toList = b.data.toList) : a = b := ByteArray.ext (Array.toList_inj.1 h)
def isB (a b : ByteArray) : Bool := a.data.toList == b.data.toList
theorem isB_is (a b : ByteArray) : decide (a = b) = isB a b := by
 unfold isB
 by_cases h : a = b
 ·subst h; simp
 ·rw [decide_eq_false h]
  symm
  rw [beq_eq_false_iff_ne]
  exact fun c => h (list_inj c)
def prF (s : ByteArray) : Bool := !s.data.toList.isEmpty && P.allN.any fun x => (P.nm x).data.toList == s.data.toList
def rsF (s : ByteArray) : Bool := (R.resL.any fun l => s.data.toList == l) || prF s
def imF (s : ByteArray) : Bool := T.nameB s.data.toList && !rsF s
def knF (r : Rd) (s : ByteArray) : Bool := (r.defs.map (·.nm)).any fun x => isB x s
theorem rs_is : R.isRes = rsF := by
 funext s
 simp only [R.isRes, rsF, R.resW, R.prN, prF, ByteArray.toList_eq]
theorem im_is : R.isNm = imF := by
 funext s
 rw [R.isNm, rs_is, imF]
theorem kn_is : known = knF := by
 funext r s
 simp only [known, knF, isB_is]
def PL : R.En := (⟨#[]⟩, 8) :: (List.range' 9 55).map fun x => (P.nm x, (x : Int))
theorem PM_is : PM = PL := by kernel_rfl
def lkF : R.En -> ByteArray -> Option Int
 | [], _ => none
 | (s, v) :: r, x => if isB s x then some v else lkF r x
theorem lkF_is (L : R.En) (x : ByteArray) : lk L x = lkF L x := by
 induction L with
 | nil => rfl
 | cons a r ih =>
  obtain ⟨s, v⟩ := a
  rw [lk, lkF, ih, <- isB_is]
  by_cases h : s = x <;> simp [h]
theorem lk_is : lk PM = lkF PL := by
 funext x
 rw [PM_is, lkF_is]
theorem itemsF_is (e : Ps) (n : Nat) (r : Rd) : D.itemsN (lk PM) e n r = itemsG rsF imF knF (lkF PL) e n r := by
 rw [itemsG_is, rs_is, im_is, kn_is, lk_is]
end Go.Proofs.YtdnklgceghllaaaGreatDoor.M
namespace Go.Proofs.YtdnklgceghllaaaGreatDoor.M
open Go.RowKit
open Go.Proofs
open Go.Proofs.YtdnklgceghllaaaGreatDoor.K (Tk kd)
open Go.Proofs.YtdnklgceghllaaaGreatDoor.Y (Nd Df Ps Bk e0)
open Go.Proofs.YtdnklgceghllaaaGreatDoor.D (Rd Er Re next must add put begin_ close turnElse turnWhile leave finish ctl isW lit prm cll ext setK setHas standIn node bodyN known PM)
open Go.Proofs.YtdnklgceghllaaaGreatDoor.R (ck cks own1 fits inn isNm lk)
set_option linter.unusedVariables false
set_option linter.unusedSimpArgs false
set_option maxRecDepth 100000
def WfT (t : Tk) : Prop := t.k = kd t.t.data.toList /\ t.v = T.numC t.t.data.toList
def vn : Nd -> Bool
 | ⟨k, _, v, _, th, el, _, _⟩ => (k != 2 || (decide (0 <= v) && decide (v <= 65535))) && ((th.map vn).all id && (el.map vn).all id)
def vns (l : List Nd) : Bool := (l.map vn).all id
theorem vn_is (n : Nd) : vn n = ((n.k != 2 || (decide (0 <= n.v) && decide (n.v <= 65535))) && (vns n.th && vns n.el)) := by cases n; rw [vn]; rfl
theorem add_top (n t : Nd) (o : List Nd) (r : Rd) : add n { r with opn := o ++ [t] } = { r with opn := o ++ [put t n] } := by
 unfold add
 simp only [List.getLast?_concat, List.dropLast_concat]
structure St (r : Rd) (i : Nat × Bool) (names : List ByteArray) : Prop where
 nend : r.ended = false
 dep : r.opn.length = i.1
 ind : (r.opn.any fun n => n.k == 8) = i.2
 nms : r.defs.map (·.nm) = names
theorem node_lit (r : Rd) (h : r.at_.k = 2) : node (lk PM) r = .ok (add (lit r.at_.v r.at_.p) r) := by
 unfold node
 rw [if_pos (by rw [h]; rfl)]
theorem node_ctl (r : Rd) (f : Rd -> Re) (h : ¬ r.at_.k = 2) (hc : ctl r.at_.t = some f) : node (lk PM) r = f r := by
 unfold node
 rw [if_neg (by simpa using h), hc]
theorem node_call (r : Rd) (h : ¬ r.at_.k = 2) (hc : ctl r.at_.t = none) (hk : known r r.at_.t = true) : node (lk PM) r = .ok (add (cll r.at_.t r.at_.p) r) := by
 unfold node
 rw [if_neg (by simpa using h), hc]
 simp only
 rw [if_pos hk]
theorem node_prim (r : Rd) (op : Int) (h : ¬ r.at_.k = 2) (hc : ctl r.at_.t = none) (hk : known r r.at_.t = false) (hp : lk PM r.at_.t = some op) : node (lk PM) r = .ok (add (prm op r.at_.p) r) := by
 unfold node
 rw [if_neg (by simpa using h), hc]
 simp only
 rw [if_neg (by rw [hk]; decide), hp]
end Go.Proofs.YtdnklgceghllaaaGreatDoor.M
namespace Go.Proofs.YtdnklgceghllaaaGreatDoor.M
open Go.RowKit
open Go.Proofs
open Go.Proofs.YtdnklgceghllaaaGreatDoor.K (Tk kd)
open Go.Proofs.YtdnklgceghllaaaGreatDoor.Y (Nd Df Ps Bk e0)
open Go.Proofs.YtdnklgceghllaaaGreatDoor.D (Rd Er Re next must add put begin_ close turnElse turnWhile leave finish ctl isW lit prm cll ext setK setHas standIn node bodyN known PM)
open Go.Proofs.YtdnklgceghllaaaGreatDoor.R (ck cks own1 fits inn isNm lk)
set_option linter.unusedVariables false
set_option linter.unusedSimpArgs false
set_option maxRecDepth 100000
def CN (n : Nd) : Prop := ∀ (names : List ByteArray) (i : Nat × Bool), (∀ s ∈ names, isNm s = true) -> ck names n i = 0 -> vn n = true -> i.1 <= 32 -> ∀ (e : Ps) (ts1 : List Tk), (∀ t ∈ ts1, WfT t) -> ts1.map (·.t) = nw n -> ∀ (r : Rd) (ts2 : List Tk), r.rest = ts1 ++ ts2 -> St r i names ->
 ∃ n' a, sm n n' = true /\ ∀ m, bodyN (lk PM) e (m + ts1.length) r = bodyN (lk PM) e m (add n' { r with rest := ts2, at_ := a })
end Go.Proofs.YtdnklgceghllaaaGreatDoor.M
namespace Go.Proofs.YtdnklgceghllaaaGreatDoor.M
open Go.RowKit
open Go.Proofs
open Go.Proofs.YtdnklgceghllaaaGreatDoor.K (Tk kd)
open Go.Proofs.YtdnklgceghllaaaGreatDoor.Y (Nd Df Ps Bk e0)
open Go.Proofs.YtdnklgceghllaaaGreatDoor.D (Rd Er Re next must add name word define item numbered dataN bank itemsN finish ctl isW bodyN known PM)
open Go.Proofs.YtdnklgceghllaaaGreatDoor.R (ck cks isNm lk dfE dsE bkE chk)
set_option linter.unusedVariables false
set_option linter.unusedSimpArgs false
set_option maxRecDepth 100000
theorem next_ok (e : Ps) (r : Rd) (t : Tk) (ts : List Tk) (h : r.rest = t :: ts) : next e r = .ok { r with at_ := t, rest := ts } := by unfold next; rw [h]
theorem name_ok (e : Ps) (r : Rd) (t : Tk) (ts : List Tk) (h : r.rest = t :: ts) (hn : isNm t.t = true) (hk : known r t.t = false) : name e r = .ok { r with at_ := t, rest := ts } := by
 unfold name
 rw [next_ok e r t ts h]
 show (must (isNm t.t) t 101 >>= fun _ => must (!known r t.t) t 102 >>= fun _ => Except.ok { r with at_ := t, rest := ts }) = _
 rw [hn, hk]
 rfl
def vd (d : Df) : Bool := decide (0 <= d.v) && (decide (d.v <= 65535) && vns d.body)
end Go.Proofs.YtdnklgceghllaaaGreatDoor.M
namespace Go.Proofs.YtdnklgceghllaaaGreatDoor.M
open Go.RowKit
open Go.Proofs
open Go.Proofs.YtdnklgceghllaaaGreatDoor.K (Tk kd)
open Go.Proofs.YtdnklgceghllaaaGreatDoor.Y (Nd Df Ps Bk e0)
open Go.Proofs.YtdnklgceghllaaaGreatDoor.D (Rd Er Re next must name item numbered dataN bank itemsN isW known PM rd0 rres read_is)
open Go.Proofs.YtdnklgceghllaaaGreatDoor.R (isNm lk dfE dsE bkE chk)
set_option linter.unusedVariables false
set_option linter.unusedSimpArgs false
set_option maxRecDepth 100000
theorem ok_bind {α β : Type} (a : α) (f : α -> Except Er β) : ((Except.ok a : Except Er α) >>= f) = f a := rfl
end Go.Proofs.YtdnklgceghllaaaGreatDoor.M
namespace Go.Proofs.YtdnklgceghllaaaGreatDoor.K
open Go.Proofs.YtdnklgceghllaaaGreatDoor
open Go.Proofs.YtdnklgceghllaaaGreatDoor.T (numE numC)
set_option linter.unusedVariables false
structure Gd (w : List UInt8) : Prop where
 ne : w ≠ []
 seen : ∀ c ∈ w, T.seen c.toNat = true
 n1 : w ≠ [92]
 n2 : w ≠ [40]
 le : w.length <= 31
 num : numE w ≠ 21
theorem wl_seen (l : List UInt8) : ∀ c ∈ l.take (wl l), T.seen c.toNat = true := by
 induction l with
 | nil => intro c h; simp at h
 | cons x t ih =>
  unfold wl
  split
  ·intro c h
   rw [List.take_succ_cons] at h
   rcases List.mem_cons.1 h with rfl | h
   ·assumption
   ·exact ih c h
  ·intro c h; simp at h
theorem wl_word (w r : List UInt8) (hw : ∀ c ∈ w, T.seen c.toNat = true) (hr : r = [] \/ ∃ c t, r = c :: t /\ T.seen c.toNat = false) : wl (w ++ r) = w.length := by
 induction w with
 | nil =>
  rcases hr with rfl | ⟨c, t, rfl, hc⟩
  ·rfl
  ·simp [wl, hc]
 | cons x t ih =>
  have hx := hw x (List.mem_cons_self ..)
  rw [List.cons_append, wl, if_pos hx, ih (fun c h => hw c (List.mem_cons_of_mem _ h))]; rfl
theorem sc_good (l : List UInt8) : ∀ q ∈ (sc l).1, Gd (wd l q.1 q.2) := by
 obtain ⟨i, a, hA, hP, h⟩ := At.ends l (P := fun i a => ∀ q ∈ a, Gd (wd l q.1 q.2)) (by simp) (fun i j a _ h _ _ => h) (fun i j a hA h hi e => by
  have hs := sp_wo l i j hi e
  intro q hq
  rcases List.mem_append.1 hq with hq | hq
  ·exact h q hq
  ·simp at hq; subst hq
   refine ⟨wd_ne l i j hs.2.1 hs.1, ?_, hs.2.2.2.1, hs.2.2.2.2.1, by rw [wd_len l i j hs.2.1]; exact hs.2.2.2.2.2.1, hs.2.2.2.2.2.2⟩
   have e : wd l i j = (l.drop i).take (wl (l.drop i)) := by unfold wd; rw [hs.2.2.1]; unfold wend; rw [Nat.add_sub_cancel_left]
   show ∀ c ∈ wd l i j, _
   rw [e]; exact wl_seen _)
 rcases h with ⟨_, e⟩ | ⟨x, _, _, e⟩ <;> rw [e] <;> exact hP
theorem drop_at (p x : List UInt8) : (p ++ x).drop p.length = x := by simp
theorem wd_mid (p w r : List UInt8) : wd (p ++ (w ++ r)) p.length (p.length + w.length) = w := by
 unfold wd; rw [drop_at, Nat.add_sub_cancel_left]; simp
theorem sp_word (p w r : List UInt8) (hw : Gd w) (hr : r = [] \/ ∃ c t, r = c :: t /\ T.seen c.toNat = false) : sp (p ++ (w ++ r)) p.length = .ok (.inr (p.length + w.length)) := by
 have h1 : wend (p ++ (w ++ r)) p.length = p.length + w.length := by unfold wend; rw [drop_at, wl_word w r hw.seen hr]
 have h2 : 0 < w.length := List.length_pos_iff.2 hw.ne
 unfold sp
 rw [h1, if_neg (by omega)]
 unfold spW
 rw [wd_mid, if_neg hw.n1, if_neg hw.n2, if_neg (by have := hw.le; omega), if_neg hw.num]
theorem getD_at (p : List UInt8) (c : UInt8) (r : List UInt8) : (p ++ (c :: r)).getD p.length 0 = c := by
 rw [List.getD_eq_getElem?_getD, List.getElem?_append_right (Nat.le_refl _), Nat.sub_self]; rfl
theorem sp_blank (p : List UInt8) (c : UInt8) (r : List UInt8) (hc : bk c.toNat = true) (hs : T.seen c.toNat = false) : sp (p ++ (c :: r)) p.length = .ok (.inl (p.length + 1)) := by
 have h1 : wend (p ++ (c :: r)) p.length = p.length := by unfold wend; rw [drop_at]; simp [wl, hs]
 unfold sp
 rw [if_pos h1, getD_at, if_pos hc]
theorem ixb_at (c : Nat) (x r : List UInt8) (d : UInt8) (hd : d.toNat = c) (hx : ∀ b ∈ x, b.toNat ≠ c) : ixb c (x ++ (d :: r)) = some x.length := by
 induction x with
 | nil => simp [ixb, hd]
 | cons b t ih =>
  rw [List.cons_append, ixb, if_neg (hx b (List.mem_cons_self ..)), ih (fun y h => hx y (List.mem_cons_of_mem _ h))]; rfl
structure Sep (s : List UInt8) : Prop where
 hd : ∃ c t, s = c :: t /\ T.seen c.toNat = false
 skip : ∀ p r a, At (p ++ (s ++ r)) p.length a -> At (p ++ (s ++ r)) (p.length + s.length) a
theorem step_blank (p r : List UInt8) (c : UInt8) (a : List (Nat × Nat)) (hc : bk c.toNat = true) (hs : T.seen c.toNat = false) (h : At (p ++ (c :: r)) p.length a) : At (p ++ (c :: r)) (p.length + 1) a :=
 h.to (by simp) (sp_blank p c r hc hs)
theorem sep_one : Sep [32] := ⟨⟨32, [], rfl, by decide⟩, fun p r a h => step_blank p r 32 a (by decide) (by decide) h⟩
theorem sep_comment (b c d : UInt8) (x : List UInt8) (hb : bk b.toNat = true) (hbs : T.seen b.toNat = false) (hk : (c = 92 /\ d = 10) \/ (c = 40 /\ d = 41)) (hx : ∀ y ∈ x, y.toNat ≠ d.toNat) : Sep (b :: c :: 32 :: (x ++ [d])) := by
 refine ⟨⟨b, _, rfl, hbs⟩, fun p r a h => ?_⟩
 have e0 : p ++ ((b :: c :: 32 :: (x ++ [d])) ++ r) = p ++ (b :: (c :: 32 :: (x ++ (d :: r)))) := by simp
 rw [e0] at h ⊢
 have h1 := step_blank p (c :: 32 :: (x ++ (d :: r))) b a hb hbs h
 have e1 : p ++ (b :: (c :: 32 :: (x ++ (d :: r)))) = (p ++ [b]) ++ ([c] ++ (32 :: (x ++ (d :: r)))) := by simp
 have el : p.length + 1 = (p ++ [b]).length := by simp
 rw [e1, el] at h1
 have hcs : T.seen c.toNat = true := by rcases hk with ⟨rfl, _⟩ | ⟨rfl, _⟩ <;> decide
 have hw : wend ((p ++ [b]) ++ ([c] ++ (32 :: (x ++ (d :: r))))) (p ++ [b]).length = (p ++ [b]).length + 1 := by
  unfold wend; rw [drop_at, wl_word [c] _ (by intro y hy; simp at hy; subst hy; exact hcs) (.inr ⟨32, _, rfl, by decide⟩)]; rfl
 have hn : nxt d.toNat ((p ++ [b]) ++ ([c] ++ (32 :: (x ++ (d :: r))))) ((p ++ [b]).length + 1) = some ((p ++ [b]).length + 1 + (x.length + 1) + 1) := by
  have e2 : (p ++ [b]) ++ ([c] ++ (32 :: (x ++ (d :: r)))) = (p ++ [b] ++ [c]) ++ ((32 :: x) ++ (d :: r)) := by simp
  have e3 : (p ++ [b]).length + 1 = (p ++ [b] ++ [c]).length := by simp
  unfold nxt
  rw [e2, e3, drop_at, ixb_at d.toNat (32 :: x) r d rfl (by
   intro y hy
   rcases List.mem_cons.1 hy with rfl | hy
   ·rcases hk with ⟨_, rfl⟩ | ⟨_, rfl⟩ <;> decide
   ·exact hx y hy)]
  rfl
 have hwd : wd ((p ++ [b]) ++ ([c] ++ (32 :: (x ++ (d :: r))))) (p ++ [b]).length ((p ++ [b]).length + 1) = [c] := wd_mid (p ++ [b]) [c] _
 have hsp : sp ((p ++ [b]) ++ ([c] ++ (32 :: (x ++ (d :: r))))) (p ++ [b]).length = .ok (.inl ((p ++ [b]).length + 1 + (x.length + 1) + 1)) := by
  unfold sp; rw [hw, if_neg (by omega)]; unfold spW; rw [hwd]
  rcases hk with ⟨rfl, rfl⟩ | ⟨rfl, rfl⟩
  ·rw [if_pos rfl, show (10 : Nat) = (10 : UInt8).toNat from rfl, hn]; rfl
  ·rw [if_neg (by decide), if_pos rfl, show (41 : Nat) = (41 : UInt8).toNat from rfl, hn]
 have h2 := h1.to (by simp) hsp
 rw [<- e1] at h2
 have e4 : (p ++ [b]).length + 1 + (x.length + 1) + 1 = p.length + (b :: c :: 32 :: (x ++ [d])).length := by simp; omega
 rw [e4] at h2; exact h2
end Go.Proofs.YtdnklgceghllaaaGreatDoor.K
namespace Go.Proofs.YtdnklgceghllaaaGreatDoor.M
open Go.RowKit
open Go.Proofs
open Go.Proofs.YtdnklgceghllaaaGreatDoor.K (Tk kd tk ans sc At wd Gd Sep sp_word sep_one ext_list)
open Go.Proofs.YtdnklgceghllaaaGreatDoor.Y (Nd Df Ps Bk e0)
open Go.Proofs.YtdnklgceghllaaaGreatDoor.D (PM)
open Go.Proofs.YtdnklgceghllaaaGreatDoor.R (ck cks isNm lk dfE dsE bkE chk)
set_option linter.unusedVariables false
set_option linter.unusedSimpArgs false
set_option maxRecDepth 100000
theorem words_inj : ∀ (l l' : List ByteArray), l.map (fun w : ByteArray => w.data.toList) = l'.map (fun w => w.data.toList) -> l = l'
  | [], [], _ => rfl
  | [], _ :: _, h => by cases h
  | _ :: _, [], h => by cases h
  | a :: l, b :: l', h => by
    simp only [List.map_cons, List.cons.injEq] at h
    rw [list_inj h.1, words_inj l l' h.2]
theorem toks_of (s : ByteArray) (hs : s.size <= 65536) (a : List (Nat × Nat)) (n : Nat) (h : sc s.data.toList = (a, n, 0)) (ws : List ByteArray) (hw : a.map (fun q => wd s.data.toList q.1 q.2) = ws.map (fun w => w.data.toList)) : (ans s).2.2 = 0 /\ (∀ t ∈ (ans s).1, WfT t) /\ (ans s).1.map (·.t) = ws := by
  have e : ans s = (a.map (tk s), (0, 0), 0) := by
    unfold ans
    rw [if_neg (by omega), h]
    rfl
  rw [e]
  refine ⟨rfl, fun t ht => ?_, ?_⟩
  · obtain ⟨q, _, rfl⟩ := List.mem_map.1 ht
    unfold WfT tk
    simp only
    rw [ext_list]
    exact ⟨rfl, rfl⟩
  · have h2 : (a.map (tk s)).map (fun t => t.t.data.toList) = ws.map (fun w => w.data.toList) := by
      rw [List.map_map, <- hw]
      apply List.map_congr_left
      intro q _
      show (tk s q).t.data.toList = _
      unfold tk
      exact ext_list s q.1 q.2
    have h3 : ((a.map (tk s)).map (·.t)).map (fun w : ByteArray => w.data.toList) = ws.map (fun w => w.data.toList) := by rw [List.map_map]; exact h2
    exact words_inj _ _ h3
theorem sep_nl : Sep [10] := ⟨⟨10, [], rfl, by decide⟩, fun p r a h => K.step_blank p r 10 a (by decide) (by decide) h⟩
end Go.Proofs.YtdnklgceghllaaaGreatDoor.M
namespace Go.Proofs.YtdnklgceghllaaaGreatDoor.M
open Go.Proofs.YtdnklgceghllaaaGreatDoor.K (Tk ans)
open Go.Proofs.YtdnklgceghllaaaGreatDoor.Y (Nd Df Ps)
open Go.Proofs.YtdnklgceghllaaaGreatDoor.D (Rd Er Re rres rd0 read_is PM)
open Go.Proofs.YtdnklgceghllaaaGreatDoor.R (lk)
set_option linter.unusedVariables false
set_option maxRecDepth 100000
def tx1 : ByteArray := ⟨#[58, 32, 109, 97, 105, 110, 32, 55, 32, 100, 114, 111, 112, 32, 59]⟩
def tx2 : ByteArray := ⟨#[58, 32, 109, 97, 105, 110, 32, 105, 102, 32, 59]⟩
def run (s : ByteArray) : Re := itemsG rsF imF knF (lkF PL) (T.place s.data.toList s.size) ((ans s).1.length + 1) (rd0 (ans s).1)
theorem pans_run (s : ByteArray) (h : (ans s).2.2 = 0) : pans s = rres (T.place s.data.toList s.size) (run s) := by
 unfold pans run
 rw [if_pos h, read_is, itemsF_is]
def mn : ByteArray := ⟨#[109, 97, 105, 110]⟩
def df1 : Df := ⟨1, mn, 0, [D.lit 7 (1, 8), D.prm 13 (1, 10)], (1, 3)⟩
theorem ans1 : (ans tx1).2.2 = 0 := by kernel_rfl
theorem ans2 : (ans tx2).2.2 = 0 := by kernel_rfl
theorem run1 : (match run tx1 with | .ok r => some (r.defs, r.banks) | .error _ => none) = some ([df1], []) := by kernel_rfl
theorem run2 : (match run tx2 with | .ok r => none | .error e => some e) = some ((1, 11), 104) := by kernel_rfl
theorem pans1 : pans tx1 = .ok ([df1], []) := by
 rw [pans_run _ ans1]
 have h := run1
 revert h
 cases run tx1 with
 | error e => intro h; cases h
 | ok r =>
  intro h
  simp only [Option.some.injEq, Prod.mk.injEq] at h
  show (if r.defs.any R.isMain = true then _ else _) = _
  rw [h.1, h.2, if_pos (by kernel_rfl)]
  simp
theorem pans2 : pans tx2 = .error ((1, 11), 104) := by
 rw [pans_run _ ans2]
 have h := run2
 revert h
 cases run tx2 with
 | error e => intro h; simp only [Option.some.injEq] at h; rw [h]; rfl
 | ok r => intro h; cases h
end Go.Proofs.YtdnklgceghllaaaGreatDoor.M
namespace Go.Proofs.YtdnklgceghllaaaGreatDoor.M
open Go.RowKit
open Go.Proofs
open Go.Proofs.YtdnklgceghllaaaGreatDoor.Y (Nd Df Ps Bk)
open Go.Proofs.YtdnklgceghllaaaGreatDoor.R (chk ck cks dfE dsE)
set_option linter.unusedVariables false
set_option maxRecDepth 100000
theorem e0_list : Y.e0.toList = [] := by rw [ByteArray.toList_eq]; rfl
theorem cks1 : cks [] [D.lit 7 (1, 8), D.prm 13 (1, 10)] (0, false) = 0 := by
 have a : R.own1 [] (D.lit 7 (1, 8)) (0, false) = 0 := by
  simp [R.own1, R.uses, R.usesF, D.lit, e0_list, R.fits, R.strc]
 have b : R.own1 [] (D.prm 13 (1, 10)) (0, false) = 0 := by
  simp [R.own1, R.uses, R.usesF, D.prm, e0_list, R.fits, R.strc]
 rw [R.cks_cons, R.ck_is, if_pos a]
 simp only [D.lit, R.cks_nil, if_true]
 rw [R.cks_cons, R.ck_is, if_pos b]
 simp [D.prm, R.cks_nil]
theorem chk1 : chk [df1] [] = 0 := by
 have hn : R.isNm mn = true := by rw [im_is]; kernel_rfl
 have hd : dfE [] df1 = 0 := by
  unfold dfE
  simp [df1, R.fieldsF, hn, cks1]
 unfold chk
 rw [dsE, if_pos hd]
 have hm : ([df1].any R.isMain) = true := by kernel_rfl
 simp [dsE, R.bkE, hm]
theorem chk0 : chk [] [] = 107 := rfl
theorem dcm7 : dcm 7 = ⟨#[55]⟩ := by
 have : (Lib.itoa (wrap64 7)) = [55] := by
  rw [show wrap64 7 = 7 from by unfold wrap64; omega]
  unfold Lib.itoa
  rw [if_neg (by decide)]
  exact Lib.decDigits_one (i := 7) (by decide)
 unfold dcm
 rw [this]
def pt1 : List UInt8 := [58, 32, 109, 97, 105, 110, 32, 55, 32, 100, 114, 111, 112, 32, 59, 10]
theorem ptx1 : ptx [df1] [] = pt1 := by
 have h : dw df1 = [wColon, mn, ⟨#[55]⟩, P.nm 13, wSemi] := by
  unfold dw
  simp only [df1, if_true, nws_cons, nws_nil, nw_is, D.lit, D.prm]
  simp [nwf, dcm7, pn]
 show endL (puts [] (dw df1)) = _
 rw [h]
 kernel_rfl
theorem prn1 : prn [df1] [] = (⟨pt1.toArray⟩, 0) := by
 unfold prn
 rw [if_pos chk1, ptx1, if_neg (by decide)]
theorem sm_refl (n : Nd) : sm n n = true := by
 refine Y.Nd.ind (P := fun n => sm n n = true) ?_ n
 intro n h1 h2
 have hl : ∀ l : List Nd, (∀ m ∈ l, sm m m = true) -> sml l l = true := by
  intro l
  induction l with
  | nil => intro _; rfl
  | cons a r ih =>
   intro h
   rw [sml_cc, h a (by simp), ih fun m hm => h m (by simp [hm])]
   rfl
 obtain ⟨k, op, v, nm, th, el, has, p⟩ := n
 rw [sm_mk, hl th h1, hl el h2]
 simp
theorem sml_refl : ∀ l : List Nd, sml l l = true
 | [] => rfl
 | n :: r => by rw [sml_cc, sm_refl, sml_refl r]; rfl
theorem smds_refl (l : List Df) : smds l l = true := smds_all l l rfl fun i a b ha hb => by
 rw [ha] at hb
 cases hb
 simp [smd, sml_refl]
theorem smbs_refl (l : List Bk) : smbs l l = true := smbs_all l l rfl fun i a b ha hb => by
 rw [ha] at hb
 cases hb
 simp [smb]
end Go.Proofs.YtdnklgceghllaaaGreatDoor.M
namespace Go.Proofs.YtdnklgceghllaaaGreatDoor.M
open Go.RowKit
open Go.Proofs
open Go.Proofs.YtdnklgceghllaaaGreatDoor.K (Tk kd Gd ans sc tk wd)
open Go.Proofs.YtdnklgceghllaaaGreatDoor.Y (Nd Df Ps Bk e0)
open Go.Proofs.YtdnklgceghllaaaGreatDoor.D (Rd Er Re next must add put begin_ close turnElse turnWhile leave finish ctl isW lit prm cll ext setK setHas standIn node bodyN known PM)
open Go.Proofs.YtdnklgceghllaaaGreatDoor.R (ck cks own1 fits inn isNm lk dfE dsE bkE chk)
set_option linter.unusedVariables false
set_option linter.unusedSimpArgs false
set_option maxRecDepth 100000
structure GT (t : Tk) : Prop where
 wf : WfT t
 gd : Gd t.t.data.toList
theorem ans_gt (s : ByteArray) : ∀ t ∈ (ans s).1, GT t := by
 intro t ht
 unfold ans at ht
 split at ht
 ·cases ht
 ·split at ht
  ·obtain ⟨q, hq, rfl⟩ := List.mem_map.1 ht
   refine ⟨?_, ?_⟩
   ·unfold WfT tk
    simp only
    rw [K.ext_list]
    exact ⟨rfl, rfl⟩
   ·have := K.sc_good s.data.toList q hq
    unfold tk
    simp only
    rw [K.ext_list]
    exact this
  ·cases ht
def iAt (o : List Nd) : Nat × Bool := (o.length, o.any fun n => n.k == 8)
theorem iAt_snoc (o : List Nd) (t : Nd) : iAt (o ++ [t]) = inn t (iAt o) := by
 unfold iAt inn
 rw [List.length_append, List.any_append]
 simp
structure TN (ns : List ByteArray) (i : Nat × Bool) (t : Nd) : Prop where
 lt : i.1 < 32
 kk : t.k = 0 \/ t.k = 4 \/ t.k = 6 \/ t.k = 8
 op : t.op = 0
 v : t.v = 0
 nm : t.nm = e0
 has : t.has = true -> t.k = 4
 el : t.el = [] \/ t.has = true \/ t.k = 6
 cth : cks ns t.th (inn t i) = 0
 cel : cks ns t.el (inn t i) = 0
 vth : vns t.th = true
 vel : vns t.el = true
structure BI (ns : List ByteArray) (r : Rd) : Prop where
 nms : r.defs.map (·.nm) = ns
 bod : cks ns r.body (0, false) = 0
 vb : vns r.body = true
 opn : ∀ (j : Nat) (t : Nd), r.opn[j]? = some t -> TN ns (iAt (r.opn.take j)) t
theorem BI.move {ns : List ByteArray} {r : Rd} (h : BI ns r) (ts : List Tk) (a : Tk) : BI ns { r with rest := ts, at_ := a } := ⟨h.nms, h.bod, h.vb, h.opn⟩
theorem BI.top {ns : List ByteArray} {r : Rd} (h : BI ns r) {o : List Nd} {t : Nd} (e : r.opn = o ++ [t]) : TN ns (iAt o) t := by
 have := h.opn o.length t (by rw [e, List.getElem?_append_right (Nat.le_refl _), Nat.sub_self]; rfl)
 rwa [e, List.take_left'] at this
 rfl
theorem BI.setTop {ns : List ByteArray} {r : Rd} (h : BI ns r) {o : List Nd} {t : Nd} (e : r.opn = o ++ [t]) (t' : Nd) (ht : TN ns (iAt o) t') : BI ns { r with opn := o ++ [t'] } := by
 refine ⟨h.nms, h.bod, h.vb, fun j x hx => ?_⟩
 simp only at hx ⊢
 have hj := (List.getElem?_eq_some_iff.1 hx).1
 rw [List.length_append, List.length_singleton] at hj
 by_cases hlt : j < o.length
 ·rw [List.getElem?_append_left hlt] at hx
  have := h.opn j x (by rw [e, List.getElem?_append_left hlt]; exact hx)
  rw [e, List.take_append_of_le_length (by omega)] at this
  rw [List.take_append_of_le_length (by omega)]
  exact this
 ·obtain rfl : j = o.length := by omega
  rw [List.getElem?_append_right (Nat.le_refl _), Nat.sub_self] at hx
  simp only [List.getElem?_cons_zero, Option.some.injEq] at hx
  subst hx
  rw [List.take_left' rfl]
  exact ht
theorem BI.pop {ns : List ByteArray} {r : Rd} (h : BI ns r) {o : List Nd} {t : Nd} (e : r.opn = o ++ [t]) : BI ns { r with opn := o } := by
 refine ⟨h.nms, h.bod, h.vb, fun j x hx => ?_⟩
 simp only at hx ⊢
 have hlt := (List.getElem?_eq_some_iff.1 hx).1
 have := h.opn j x (by rw [e, List.getElem?_append_left hlt]; exact hx)
 rwa [e, List.take_append_of_le_length (by omega)] at this
theorem BI.push {ns : List ByteArray} {r : Rd} (h : BI ns r) (t' : Nd) (ht : TN ns (iAt r.opn) t') : BI ns { r with opn := r.opn ++ [t'] } := by
 refine ⟨h.nms, h.bod, h.vb, fun j x hx => ?_⟩
 simp only at hx ⊢
 have hj := (List.getElem?_eq_some_iff.1 hx).1
 rw [List.length_append, List.length_singleton] at hj
 by_cases hlt : j < r.opn.length
 ·rw [List.getElem?_append_left hlt] at hx
  rw [List.take_append_of_le_length (by omega)]
  exact h.opn j x hx
 ·obtain rfl : j = r.opn.length := by omega
  rw [List.getElem?_append_right (Nat.le_refl _), Nat.sub_self] at hx
  simp only [List.getElem?_cons_zero, Option.some.injEq] at hx
  subst hx
  rw [List.take_left' rfl]
  exact ht
theorem cks_one {ns : List ByteArray} {l : List Nd} {n : Nd} {i : Nat × Bool} (h : cks ns l i = 0) (hn : ck ns n i = 0) : cks ns (l ++ [n]) i = 0 := by
 rw [R.cks_append, if_pos h, R.cks_cons, if_pos hn]
 rfl
theorem vns_one {l : List Nd} {n : Nd} (h : vns l = true) (hn : vn n = true) : vns (l ++ [n]) = true := by
 unfold vns at h ⊢
 rw [List.map_append, List.all_append, h, Bool.true_and]
 simp [hn]
theorem BI.add {ns : List ByteArray} {r : Rd} (h : BI ns r) (n : Nd) (hn : ck ns n (iAt r.opn) = 0) (hv : vn n = true) : BI ns (D.add n r) := by
 rcases List.eq_nil_or_concat r.opn with e | ⟨o, t, e⟩
 ·have : D.add n r = { r with body := r.body ++ [n] } := by unfold D.add; rw [e]; rfl
  rw [this]
  rw [e] at hn
  exact ⟨h.nms, cks_one h.bod hn, vns_one h.vb hv, h.opn⟩
 ·have e' : r.opn = o ++ [t] := by rw [e, List.concat_eq_append]
  have ht := h.top e'
  rw [e', iAt_snoc] at hn
  have hr : D.add n r = { r with opn := o ++ [put t n] } := by
   have : r = { r with opn := o ++ [t] } := by rw [<- e']
   rw [this, add_top]
  rw [hr]
  refine h.setTop e' _ ?_
  unfold put
  split
  ·rename_i c
   refine ⟨ht.lt, ht.kk, ht.op, ht.v, ht.nm, ht.has, ?_, ht.cth, cks_one ht.cel hn, ht.vth, vns_one ht.vel hv⟩
   right
   rw [Bool.or_eq_true, beq_iff_eq] at c
   exact c
  ·exact ⟨ht.lt, ht.kk, ht.op, ht.v, ht.nm, ht.has, ht.el, cks_one ht.cth hn, ht.cel, vns_one ht.vth hv, ht.vel⟩
theorem ck_leaf {ns : List ByteArray} {n : Nd} {i : Nat × Bool} (h : own1 ns n i = 0) (h1 : n.th = []) (h2 : n.el = []) : ck ns n i = 0 := by
 rw [R.ck_is, if_pos h, h1, h2]
 rfl
theorem vn_leaf {n : Nd} (h : n.k = 2 -> 0 <= n.v /\ n.v <= 65535) (h1 : n.th = []) (h2 : n.el = []) : vn n = true := by
 rw [vn_is, h1, h2]
 simp only [Bool.and_eq_true, Bool.or_eq_true, bne_iff_ne, ne_eq, decide_eq_true_eq]
 refine ⟨?_, rfl, rfl⟩
 by_cases e : n.k = 2
 ·exact .inr (h e)
 ·exact .inl e
theorem lkF_mem : ∀ (l : List Nat) (s : ByteArray) (v : Int), lkF (l.map fun x => (P.nm x, (x : Int))) s = some v -> ∃ x ∈ l, v = (x : Int)
 | [], s, v, h => by cases h
 | a :: l, s, v, h => by
  rw [List.map_cons, lkF] at h
  split at h
  ·exact ⟨a, by simp, (Option.some.inj h).symm⟩
  ·obtain ⟨x, hx, e⟩ := lkF_mem l s v h
   exact ⟨x, by simp [hx], e⟩
theorem prim_in {s : ByteArray} {v : Int} (hs : s.data.toList ≠ []) (h : lk PM s = some v) : 9 <= v /\ v <= 63 := by
 rw [lk_is] at h
 unfold PL at h
 rw [lkF] at h
 have : isB ⟨#[]⟩ s = false := by
  unfold isB
  rw [beq_eq_false_iff_ne]
  exact fun c => hs c.symm
 rw [this, if_neg (by decide)] at h
 obtain ⟨x, hx, rfl⟩ := lkF_mem _ _ _ h
 have := List.mem_range'_1.1 hx
 omega
theorem own_lit (ns : List ByteArray) (v : Int) (p : Ps) (i : Nat × Bool) : own1 ns (lit v p) i = 0 := by
 simp [own1, R.uses, R.usesF, lit, e0_list, fits, R.strc]
theorem own_prm (ns : List ByteArray) (op : Int) (p : Ps) (i : Nat × Bool) (h : 9 <= op /\ op <= 63) : own1 ns (prm op p) i = 0 := by
 simp [own1, R.uses, R.usesF, prm, e0_list, fits, R.strc, h.1, h.2]
theorem own_cll (ns : List ByteArray) (s : ByteArray) (p : Ps) (i : Nat × Bool) (h : (ns.any fun x => decide (x = s)) = true) : own1 ns (cll s p) i = 0 := by
 have hf : fits ns (cll s p) = true := by unfold fits cll; simpa using h
 unfold own1
 rw [hf]
 simp [R.uses, R.usesF, cll, e0_list, R.strc]
theorem own_ext (ns : List ByteArray) (p : Ps) (i : Nat × Bool) (h : i.2 = false) : own1 ns (ext p) i = 0 := by
 simp [own1, R.uses, R.usesF, ext, e0_list, fits, R.strc, h]
theorem ck_close {ns : List ByteArray} {i : Nat × Bool} {t : Nd} (h : TN ns i t) (b : Int) (hb : (t.k = 4 /\ b = 4) \/ (t.k = 0 /\ (b = 5 \/ b = 7)) \/ (t.k = 6 /\ b = 6) \/ (t.k = 8 /\ b = 8)) : ck ns (setK t b) i = 0 /\ vn (setK t b) = true := by
 obtain ⟨k, op, v, nm, th, el, has, p⟩ := t
 obtain ⟨lt, kk, rfl, rfl, rfl, hs, hel, cth, cel, vth, vel⟩ := h
 simp only at *
 have h8 : (b == 8) = (k == 8) := by
  rcases hb with ⟨rfl, rfl⟩ | ⟨rfl, rfl | rfl⟩ | ⟨rfl, rfl⟩ | ⟨rfl, rfl⟩ <;> rfl
 have hi : inn (⟨b, 0, 0, e0, th, el, has, p⟩ : Nd) i = inn (⟨k, 0, 0, e0, th, el, has, p⟩ : Nd) i := by unfold inn; simp only; rw [h8]
 have ho : own1 ns ⟨b, 0, 0, e0, th, el, has, p⟩ i = 0 := by
  have hne : ¬ i.1 = 32 := by omega
  rcases hb with ⟨rfl, rfl⟩ | ⟨rfl, rfl | rfl⟩ | ⟨rfl, rfl⟩ | ⟨rfl, rfl⟩
  ·rcases hel with rfl | h' | h'
   ·simp [own1, R.uses, R.usesF, e0_list, fits, R.strc, hne]
   ·subst h'
    simp [own1, R.uses, R.usesF, e0_list, fits, R.strc, hne]
   ·omega
  ·obtain rfl : has = false := by cases has with | false => rfl | true => exact absurd (hs rfl) (by decide)
   obtain rfl : el = [] := by rcases hel with h' | h' | h'; exact h'; cases h'; omega
   simp [own1, R.uses, R.usesF, e0_list, fits, R.strc, hne]
  ·obtain rfl : has = false := by cases has with | false => rfl | true => exact absurd (hs rfl) (by decide)
   obtain rfl : el = [] := by rcases hel with h' | h' | h'; exact h'; cases h'; omega
   simp [own1, R.uses, R.usesF, e0_list, fits, R.strc, hne]
  ·obtain rfl : has = false := by cases has with | false => rfl | true => exact absurd (hs rfl) (by decide)
   simp [own1, R.uses, R.usesF, e0_list, fits, R.strc, hne]
  ·obtain rfl : has = false := by cases has with | false => rfl | true => exact absurd (hs rfl) (by decide)
   obtain rfl : el = [] := by rcases hel with h' | h' | h'; exact h'; cases h'; omega
   simp [own1, R.uses, R.usesF, e0_list, fits, R.strc, hne]
 refine ⟨?_, ?_⟩
 ·show ck ns ⟨b, 0, 0, e0, th, el, has, p⟩ i = 0
  rw [R.ck_is, if_pos ho]
  simp only
  rw [hi, if_pos cth]
  exact cel
 ·show vn ⟨b, 0, 0, e0, th, el, has, p⟩ = true
  rw [vn_is, vth, vel]
  simp only [Bool.and_self, Bool.and_true, Bool.or_eq_true, bne_iff_ne, ne_eq]
  left
  omega
end Go.Proofs.YtdnklgceghllaaaGreatDoor.M
namespace Go.Proofs.YtdnklgceghllaaaGreatDoor.M
open Go.RowKit
open Go.Proofs
open Go.Proofs.YtdnklgceghllaaaGreatDoor.K (Tk kd Gd ans)
open Go.Proofs.YtdnklgceghllaaaGreatDoor.Y (Nd Df Ps Bk e0)
open Go.Proofs.YtdnklgceghllaaaGreatDoor.D (Rd Er Re next must add put begin_ close turnElse turnWhile leave finish ctl isW lit prm cll ext setK setHas standIn node bodyN known PM name word define item numbered dataN bank itemsN rd0 rres read_is)
open Go.Proofs.YtdnklgceghllaaaGreatDoor.R (ck cks own1 fits inn isNm lk dfE dsE bkE chk)
set_option linter.unusedVariables false
set_option linter.unusedSimpArgs false
set_option maxRecDepth 100000
structure KS (r r' : Rd) : Prop where
 rest : r'.rest = r.rest
 defs : r'.defs = r.defs
 banks : r'.banks = r.banks
theorem ks_add (n : Nd) (r : Rd) : KS r (D.add n r) := by
 unfold D.add
 split <;> exact ⟨rfl, rfl, rfl⟩
theorem begin_bi {ns : List ByteArray} {r r' : Rd} {k : Int} (hk : k = 0 \/ k = 4 \/ k = 8) (hb : BI ns r) (h : begin_ k r = .ok r') : BI ns r' /\ KS r r' := by
 unfold begin_ must at h
 by_cases hl : r.opn.length < 32
 ·rw [if_pos (by simpa using hl), ok_bind] at h
  obtain rfl := Except.ok.inj h
  refine ⟨hb.push _ ⟨hl, (by show k = 0 \/ k = 4 \/ k = 6 \/ k = 8; omega), rfl, rfl, rfl, (fun c => by cases c), .inl rfl, rfl, rfl, rfl, rfl⟩, rfl, rfl, rfl⟩
 ·rw [if_neg (by simpa using hl)] at h
  cases h
theorem opn_cases (r : Rd) : r.opn = [] \/ ∃ o t, r.opn = o ++ [t] := by
 rcases List.eq_nil_or_concat r.opn with e | ⟨o, t, e⟩
 ·exact .inl e
 ·exact .inr ⟨o, t, by rw [e, List.concat_eq_append]⟩
theorem close_bi {ns : List ByteArray} {r r' : Rd} {k b : Int} (hkb : (k = 4 /\ b = 4) \/ (k = 0 /\ (b = 5 \/ b = 7)) \/ (k = 6 /\ b = 6) \/ (k = 8 /\ b = 8)) (hb : BI ns r) (h : close k b r = .ok r') : BI ns r' /\ KS r r' := by
 unfold close must standIn at h
 rcases opn_cases r with e | ⟨o, t, e⟩
 ·simp only [e, List.getLast?_nil] at h
  cases h
 ·simp only [e, List.getLast?_concat, List.dropLast_concat] at h
  by_cases hk : t.k = k
  ·rw [if_pos (by simpa using hk), ok_bind] at h
   obtain rfl := Except.ok.inj h
   have ht := hb.top e
   obtain ⟨c1, c2⟩ := ck_close ht b (by rw [hk]; exact hkb)
   have hp := hb.pop e
   have := ks_add (setK t b) { r with opn := o }
   exact ⟨hp.add _ c1 c2, this.rest, this.defs, this.banks⟩
  ·rw [if_neg (by simpa using hk)] at h
   cases h
theorem else_bi {ns : List ByteArray} {r r' : Rd} (hb : BI ns r) (h : turnElse r = .ok r') : BI ns r' /\ KS r r' := by
 unfold turnElse must standIn at h
 rcases opn_cases r with e | ⟨o, t, e⟩
 ·simp only [e, List.getLast?_nil] at h
  cases h
 ·simp only [e, List.getLast?_concat, List.dropLast_concat] at h
  by_cases hk : t.k = 4
  ·rw [if_pos (by simpa using hk), ok_bind] at h
   cases hh : t.has with
   | true => rw [hh] at h; cases h
   | false =>
    rw [hh] at h
    obtain rfl := Except.ok.inj h
    have ht := hb.top e
    exact ⟨hb.setTop e (setHas t) ⟨ht.lt, ht.kk, ht.op, ht.v, ht.nm, fun _ => hk, .inr (.inl rfl), ht.cth, ht.cel, ht.vth, ht.vel⟩, rfl, rfl, rfl⟩
  ·rw [if_neg (by simpa using hk)] at h
   cases h
theorem while_bi {ns : List ByteArray} {r r' : Rd} (hb : BI ns r) (h : turnWhile r = .ok r') : BI ns r' /\ KS r r' := by
 unfold turnWhile must standIn at h
 rcases opn_cases r with e | ⟨o, t, e⟩
 ·simp only [e, List.getLast?_nil] at h
  cases h
 ·simp only [e, List.getLast?_concat, List.dropLast_concat] at h
  by_cases hk : t.k = 0
  ·rw [if_pos (by simpa using hk), ok_bind] at h
   obtain rfl := Except.ok.inj h
   have ht := hb.top e
   have hin : inn (setK t 6) (iAt o) = inn t (iAt o) := by unfold inn setK; rw [hk]; rfl
   exact ⟨hb.setTop e (setK t 6) ⟨ht.lt, .inr (.inr (.inl rfl)), ht.op, ht.v, ht.nm, fun c => by have := ht.has c; omega, .inr (.inr rfl), by rw [hin]; exact ht.cth, by rw [hin]; exact ht.cel, ht.vth, ht.vel⟩, rfl, rfl, rfl⟩
  ·rw [if_neg (by simpa using hk)] at h
   cases h
theorem leave_bi {ns : List ByteArray} {r r' : Rd} (hb : BI ns r) (h : leave r = .ok r') : BI ns r' /\ KS r r' := by
 unfold leave must at h
 cases hd : r.opn.any fun n => n.k == 8 with
 | true => rw [hd] at h; cases h
 | false =>
  rw [hd] at h
  obtain rfl := Except.ok.inj h
  exact ⟨hb.add _ (ck_leaf (own_ext ns _ _ hd) rfl rfl) (vn_leaf (fun c => by cases c) rfl rfl), ks_add _ r⟩
theorem finish_bi {ns : List ByteArray} {r r' : Rd} (hb : BI ns r) (h : finish r = .ok r') : BI ns r' /\ KS r r' := by
 unfold finish must at h
 by_cases hl : r.opn.length = 0
 ·rw [if_pos (by simpa using hl), ok_bind] at h
  obtain rfl := Except.ok.inj h
  exact ⟨⟨hb.nms, hb.bod, hb.vb, hb.opn⟩, rfl, rfl, rfl⟩
 ·rw [if_neg (by simpa using hl)] at h
  cases h
theorem ite_some {α : Type} {c : Prop} [Decidable c] {a f : α} {b : Option α} (h : (if c then some a else b) = some f) : a = f \/ b = some f := by
 by_cases hc : c
 ·rw [if_pos hc] at h; exact .inl (Option.some.inj h)
 ·rw [if_neg hc] at h; exact .inr h
theorem ctl_bi {ns : List ByteArray} {s : ByteArray} {f : Rd -> Re} (hc : ctl s = some f) {r r' : Rd} (hb : BI ns r) (h : f r = .ok r') : BI ns r' /\ KS r r' := by
 unfold ctl at hc
 rcases ite_some hc with rfl | hc
 ·exact begin_bi (by omega) hb h
 rcases ite_some hc with rfl | hc
 ·exact else_bi hb h
 rcases ite_some hc with rfl | hc
 ·exact close_bi (by omega) hb h
 rcases ite_some hc with rfl | hc
 ·exact begin_bi (by omega) hb h
 rcases ite_some hc with rfl | hc
 ·exact close_bi (by omega) hb h
 rcases ite_some hc with rfl | hc
 ·exact close_bi (by omega) hb h
 rcases ite_some hc with rfl | hc
 ·exact while_bi hb h
 rcases ite_some hc with rfl | hc
 ·exact close_bi (by omega) hb h
 rcases ite_some hc with rfl | hc
 ·exact begin_bi (by omega) hb h
 rcases ite_some hc with rfl | hc
 ·exact close_bi (by omega) hb h
 rcases ite_some hc with rfl | hc
 ·exact leave_bi hb h
 rcases ite_some hc with rfl | hc
 ·exact finish_bi hb h
 cases hc
theorem node_bi {ns : List ByteArray} {r r' : Rd} (hg : GT r.at_) (hb : BI ns r) (h : node (lk PM) r = .ok r') : BI ns r' /\ KS r r' := by
 unfold node at h
 split at h
 ·obtain rfl := Except.ok.inj h
  refine ⟨hb.add _ (ck_leaf (own_lit ns _ _ _) rfl rfl) (vn_leaf (fun _ => ?_) rfl rfl), ks_add _ r⟩
  show 0 <= r.at_.v /\ r.at_.v <= 65535
  rw [hg.wf.2]
  exact numC_in16 _
 ·split at h
  ·rename_i f hc
   exact ctl_bi hc hb h
  ·split at h
   ·rename_i hk
    obtain rfl := Except.ok.inj h
    refine ⟨hb.add _ (ck_leaf (own_cll ns _ _ _ ?_) rfl rfl) (vn_leaf (fun c => by cases c) rfl rfl), ks_add _ r⟩
    unfold known at hk
    rw [hb.nms] at hk
    exact hk
   ·split at h
    ·rename_i op hp
     obtain rfl := Except.ok.inj h
     exact ⟨hb.add _ (ck_leaf (own_prm ns _ _ _ (prim_in hg.gd.ne hp)) rfl rfl) (vn_leaf (fun c => by cases c) rfl rfl), ks_add _ r⟩
    ·cases h
theorem next_is {e : Ps} {r r' : Rd} (h : next e r = .ok r') : ∃ t ts, r.rest = t :: ts /\ r' = { r with at_ := t, rest := ts } := by
 unfold next at h
 split at h
 ·cases h
 ·rename_i t ts hr
  exact ⟨t, ts, hr, (Except.ok.inj h).symm⟩
theorem bind_ok {α β : Type} {x : Except Er α} {f : α -> Except Er β} {b : β} (h : (x >>= f) = .ok b) : ∃ a, x = .ok a /\ f a = .ok b := by
 cases x with
 | error e => cases h
 | ok a => exact ⟨a, rfl, h⟩
theorem must_ok {b : Bool} {t : Tk} {c : Int} {u : Unit} (h : must b t c = .ok u) : b = true := by
 unfold must at h
 cases b with
 | true => rfl
 | false => cases h
theorem body_bi {ns : List ByteArray} (e : Ps) : ∀ (n : Nat) (r r' : Rd), (∀ t ∈ r.rest, GT t) -> BI ns r -> bodyN (lk PM) e n r = .ok r' -> BI ns r' /\ r'.defs = r.defs /\ r'.banks = r.banks /\ ∀ t ∈ r'.rest, GT t
 | 0, r, r', hg, hb, h => by
  obtain rfl := Except.ok.inj h
  exact ⟨hb, rfl, rfl, hg⟩
 | n + 1, r, r', hg, hb, h => by
  rw [bodyN] at h
  split at h
  ·obtain rfl := Except.ok.inj h
   exact ⟨hb, rfl, rfl, hg⟩
  ·have hh := bind_ok h
   clear h
   obtain ⟨r1, h1, h⟩ := hh
   have hh := bind_ok h
   clear h
   obtain ⟨r2, h2, h⟩ := hh
   obtain ⟨t, ts, hr, rfl⟩ := next_is h1
   rw [hr] at hg
   obtain ⟨b2, k2⟩ := node_bi (hg t (by simp)) (hb.move ts t) h2
   obtain ⟨q1, q2, q3, q4⟩ := body_bi e n r2 r' (fun x hx => by rw [k2.rest] at hx; exact hg x (by simp [show x ∈ ts from hx])) b2 h
   exact ⟨q1, by rw [q2, k2.defs], by rw [q3, k2.banks], q4⟩
structure DI (r : Rd) : Prop where
 ds : dsE [] r.defs = 0
 vv : r.defs.all vd = true
 bk : ∀ b ∈ r.banks, 0 <= b.1 /\ b.1 < 16 /\ b.2.length <= 16384
 nod : (r.banks.map (·.1)).Nodup
 gt : ∀ t ∈ r.rest, GT t
theorem dsE_snoc : ∀ (l : List Df) (ns : List ByteArray) (d : Df), dsE ns l = 0 -> dfE (ns ++ l.map (·.nm)) d = 0 -> dsE ns (l ++ [d]) = 0
 | [], ns, d, _, h => by
  rw [List.nil_append, dsE, if_pos (by simpa using h)]
  rfl
 | a :: l, ns, d, h, h2 => by
  obtain ⟨h3, h4⟩ := dsE_cons h
  rw [List.cons_append, dsE, if_pos h3]
  exact dsE_snoc l (ns ++ [a.nm]) d h4 (by simpa using h2)
theorem name_is {e : Ps} {r r' : Rd} (h : name e r = .ok r') : ∃ t ts, r.rest = t :: ts /\ r' = { r with at_ := t, rest := ts } /\ isNm t.t = true /\ known r t.t = false := by
 unfold name at h
 have hh := bind_ok h
 clear h
 obtain ⟨r1, h1, h⟩ := hh
 have hh := bind_ok h
 clear h
 obtain ⟨u, h2, h⟩ := hh
 have hh := bind_ok h
 clear h
 obtain ⟨u', h3, h⟩ := hh
 obtain ⟨t, ts, hr, rfl⟩ := next_is h1
 obtain rfl := Except.ok.inj h
 have m2 := must_ok h2
 have m3 := must_ok h3
 have m4 : (!known r t.t) = true := m3
 exact ⟨t, ts, hr, rfl, m2, by simpa using m4⟩
theorem DI.define {r : Rd} (h : DI r) (k : Int) (t : Tk) (v : Int) (body : List Nd) (ts : List Tk) (r1 : Rd) (hr1 : r1.defs = r.defs) (hb1 : r1.banks = r.banks) (hg1 : ∀ t ∈ r1.rest, GT t) (hn : isNm t.t = true) (hk : known r t.t = false) (hf : R.fieldsF k v body.isEmpty = true) (h16 : 0 <= v /\ v <= 65535) (h3 : k = 3 -> v <= 16384) (hc : cks (r.defs.map (·.nm)) body (0, false) = 0) (hv : vns body = true) : DI (D.define k t v body r1) := by
 have hd : dfE (r.defs.map (·.nm)) ⟨k, t.t, v, body, t.p⟩ = 0 := by
  unfold dfE
  rw [hf, hn]
  unfold known at hk
  simp only [hk]
  rw [if_neg (by decide), if_neg (by decide), if_neg (by decide), if_neg (by omega)]
  exact hc
 refine ⟨?_, ?_, ?_, ?_, hg1⟩
 ·show dsE [] (r1.defs ++ [_]) = 0
  rw [hr1]
  exact dsE_snoc _ _ _ h.ds (by simpa using hd)
 ·show (r1.defs ++ [_]).all vd = true
  rw [hr1, List.all_append, h.vv]
  simp [vd, h16.1, h16.2, hv]
 ·show ∀ b ∈ r1.banks, _
  rw [hb1]; exact h.bk
 ·show (r1.banks.map _).Nodup
  rw [hb1]; exact h.nod
theorem data_len (e : Ps) : ∀ (n : Nat) (d : List UInt8) (r : Rd) (x : List UInt8 × Rd), d.length <= 16384 -> dataN e n d r = .ok x -> (∀ t ∈ r.rest, GT t) -> x.1.length <= 16384 /\ x.2.defs = r.defs /\ x.2.banks = r.banks /\ ∀ t ∈ x.2.rest, GT t
 | 0, d, r, x, hd, h, hg => by
  obtain rfl := Except.ok.inj h
  exact ⟨hd, rfl, rfl, hg⟩
 | n + 1, d, r, x, hd, h, hg => by
  unfold dataN at h
  have hh := bind_ok h
  clear h
  obtain ⟨r1, h1, h⟩ := hh
  obtain ⟨t, ts, hr, rfl⟩ := next_is h1
  rw [hr] at hg
  split at h
  ·obtain rfl := Except.ok.inj h
   exact ⟨hd, rfl, rfl, fun y hy => hg y (by simp [show y ∈ ts from hy])⟩
  ·have hh := bind_ok h
   clear h
   obtain ⟨u, h2, h⟩ := hh
   have m := must_ok h2
   simp only [Bool.and_eq_true, decide_eq_true_eq] at m
   have q := fun a b => data_len e n _ _ x a h b
   exact q (by rw [List.length_append]; simp only [List.length_cons, List.length_nil]; omega) (fun y hy => hg y (by simp [show y ∈ ts from hy]))
theorem num_v {t : Tk} (h : GT t) : 0 <= t.v /\ t.v <= 65535 := by rw [h.wf.2]; exact numC_in16 _
theorem item_di {e : Ps} {r r' : Rd} (h : DI r) (hi : item (lk PM) e r = .ok r') : DI r' := by
 unfold item at hi
 have hh := bind_ok hi
 clear hi
 obtain ⟨r1, h1, hi⟩ := hh
 obtain ⟨t0, ts, hr, rfl⟩ := next_is h1
 have hg := h.gt
 rw [hr] at hg
 have hg0 := hg t0 (by simp)
 have hg1 : ∀ t ∈ ts, GT t := fun t ht => hg t (by simp [ht])
 split at hi
 ·unfold numbered at hi
  have hh := bind_ok hi
  clear hi
  obtain ⟨r2, h2, hi⟩ := hh
  obtain ⟨t1, ts1, hr1, rfl⟩ := next_is h2
  have hr1' : ts = t1 :: ts1 := hr1
  rw [hr1'] at hg1
  split at hi
  ·have hh := bind_ok hi
   clear hi
   obtain ⟨r3, h3, hi⟩ := hh
   obtain ⟨t2, ts2, hr2, rfl, n1, n2⟩ := name_is h3
   have hr2' : ts1 = t2 :: ts2 := hr2
   obtain rfl := Except.ok.inj hi
   exact h.define 2 t2 t0.v [] ts2 _ rfl rfl (fun t ht => hg1 t (by rw [hr2']; simp [show t ∈ ts2 from ht])) n1 n2 rfl (num_v hg0) (fun c => by cases c) rfl rfl
  ·split at hi
   ·have hh := bind_ok hi
    clear hi
    obtain ⟨u, hm, hi⟩ := hh
    have hh := bind_ok hi
    clear hi
    obtain ⟨r3, h3, hi⟩ := hh
    obtain ⟨t2, ts2, hr2, rfl, n1, n2⟩ := name_is h3
    have hr2' : ts1 = t2 :: ts2 := hr2
    obtain rfl := Except.ok.inj hi
    have m := must_ok hm
    exact h.define 3 t2 t0.v [] ts2 _ rfl rfl (fun t ht => hg1 t (by rw [hr2']; simp [show t ∈ ts2 from ht])) n1 n2 rfl (num_v hg0) (fun _ => by simpa using m) rfl rfl
   ·split at hi
    ·unfold bank at hi
     have hh := bind_ok hi
     clear hi
     obtain ⟨u, hm, hi⟩ := hh
     have hh := bind_ok hi
     clear hi
     obtain ⟨u2, hm2, hi⟩ := hh
     have hh := bind_ok hi
     clear hi
     obtain ⟨r3, h3, hi⟩ := hh
     have hh := bind_ok hi
     clear hi
     obtain ⟨u3, hm3, hi⟩ := hh
     have hh := bind_ok hi
     clear hi
     obtain ⟨x, h4, hi⟩ := hh
     obtain ⟨t2, ts2, hr2, rfl⟩ := next_is h3
     have hr2' : ts1 = t2 :: ts2 := hr2
     obtain ⟨q1, q2, q3, q4⟩ := data_len e _ _ _ x (by simp) h4 (fun t ht => hg1 t (by rw [hr2']; simp [show t ∈ ts2 from ht]))
     obtain rfl := Except.ok.inj hi
     have m := must_ok hm
     have m2 := must_ok hm2
     rw [decide_eq_true_eq] at m
     have hnot : ∀ b ∈ r.banks, b.1 ≠ t0.v := fun b hb c => by
      have : (r.banks.any fun b => b.1 == t0.v) = true := List.any_eq_true.2 ⟨b, hb, by simpa using c⟩
      simp only [this, Bool.not_true, Bool.false_eq_true] at m2
     refine ⟨by show dsE [] x.2.defs = 0; rw [q2]; exact h.ds, by show x.2.defs.all vd = true; rw [q2]; exact h.vv, ?_, ?_, q4⟩
     ·show ∀ b ∈ x.2.banks ++ [(t0.v, x.1)], _
      rw [q3]
      intro b hb
      rcases List.mem_append.1 hb with hb | hb
      ·exact h.bk b hb
      ·rw [List.mem_singleton] at hb
       rw [hb]
       exact ⟨(num_v hg0).1, m, q1⟩
     ·show ((x.2.banks ++ [(t0.v, x.1)]).map _).Nodup
      rw [q3, List.map_append, List.nodup_append]
      refine ⟨h.nod, by simp, ?_⟩
      intro a ha c hc
      obtain ⟨b, hb, rfl⟩ := List.mem_map.1 ha
      simp only [List.map_cons, List.map_nil, List.mem_singleton] at hc
      rw [hc]
      exact hnot b hb
    ·cases hi
 ·split at hi
  ·unfold word at hi
   have hh := bind_ok hi
   clear hi
   obtain ⟨r3, h3, hi⟩ := hh
   have hh := bind_ok hi
   clear hi
   obtain ⟨r4, h4, hi⟩ := hh
   obtain ⟨t2, ts2, hr2, rfl, n1, n2⟩ := name_is h3
   have hr2' : ts = t2 :: ts2 := hr2
   obtain rfl := Except.ok.inj hi
   have hg2 : ∀ t ∈ ts2, GT t := fun t ht => hg1 t (by rw [hr2']; simp [ht])
   obtain ⟨b1, b2, b3, b4⟩ := body_bi (ns := r.defs.map (·.nm)) e _ _ r4 hg2 ⟨rfl, rfl, rfl, fun j t ht => by simp at ht⟩ h4
   exact h.define 1 t2 0 r4.body ts2 r4 b2 b3 b4 n1 n2 rfl (by omega) (fun c => by cases c) b1.bod b1.vb
  ·split at hi
   ·have hh := bind_ok hi
    clear hi
    obtain ⟨r3, h3, hi⟩ := hh
    obtain ⟨t2, ts2, hr2, rfl, n1, n2⟩ := name_is h3
    have hr2' : ts = t2 :: ts2 := hr2
    obtain rfl := Except.ok.inj hi
    exact h.define 3 t2 2 [] ts2 _ rfl rfl (fun t ht => hg1 t (by rw [hr2']; simp [show t ∈ ts2 from ht])) n1 n2 rfl (by omega) (fun _ => by omega) rfl rfl
   ·cases hi
theorem items_di (e : Ps) : ∀ (n : Nat) (r r' : Rd), DI r -> itemsN (lk PM) e n r = .ok r' -> DI r'
 | 0, r, r', h, hi => by
  obtain rfl := Except.ok.inj hi
  exact h
 | n + 1, r, r', h, hi => by
  rw [itemsN] at hi
  split at hi
  ·obtain rfl := Except.ok.inj hi
   exact h
  ·have hh := bind_ok hi
   clear hi
   obtain ⟨r1, h1, hi⟩ := hh
   exact items_di e n r1 r' (item_di h h1) hi
theorem bkE_of : ∀ (bs : List Bk) (z : Int), (∀ b ∈ bs, 0 <= b.1 /\ b.1 < 16 /\ b.2.length <= 16384) -> bs.Pairwise (fun a b => a.1 < b.1) -> (∀ b ∈ bs, z < b.1) -> bkE z bs = 0
 | [], z, _, _, _ => rfl
 | b :: bs, z, h, hp, hz => by
  obtain ⟨p1, p2⟩ := List.pairwise_cons.1 hp
  have h1 := h b (by simp)
  have h2 := hz b (by simp)
  rw [bkE, if_neg (by omega), if_neg (by omega)]
  exact bkE_of bs b.1 (fun x hx => h x (by simp [hx])) p2 p1
theorem read_chk (e : Ps) (ts : List Tk) (hg : ∀ t ∈ ts, GT t) (ds : List Df) (bs : List Bk) (h : D.read (lk PM) e ts = .ok (ds, bs)) : chk ds bs = 0 /\ ds.all vd = true := by
 rw [read_is] at h
 cases hi : itemsN (lk PM) e (ts.length + 1) (rd0 ts) with
 | error x => rw [hi] at h; cases h
 | ok r =>
  rw [hi] at h
  have hd := items_di e _ (rd0 ts) r ⟨rfl, rfl, (fun b hb => by cases hb), List.nodup_nil, hg⟩ hi
  change (if r.defs.any R.isMain = true then Except.ok (r.defs, r.banks.mergeSort fun a b => decide (a.1 <= b.1)) else _) = _ at h
  split at h
  ·rename_i hm
   simp only [Except.ok.injEq, Prod.mk.injEq] at h
   obtain ⟨rfl, rfl⟩ := h
   refine ⟨?_, hd.vv⟩
   have hperm := List.mergeSort_perm r.banks (fun a b => decide (a.1 <= b.1))
   have hle := List.pairwise_mergeSort (le := fun (a b : Bk) => decide (a.1 <= b.1)) (fun a b c h1 h2 => by simp only [decide_eq_true_eq] at *; omega) (fun a b => by simp only [Bool.or_eq_true, decide_eq_true_eq]; omega) r.banks
   have hnd : ((r.banks.mergeSort fun a b => decide (a.1 <= b.1)).map (·.1)).Nodup := (hperm.map _).nodup_iff.2 hd.nod
   have hlt : (r.banks.mergeSort fun a b => decide (a.1 <= b.1)).Pairwise (fun a b => a.1 < b.1) := by
    have h2 := List.pairwise_map.1 hnd
    exact (hle.and h2).imp fun {a b} h => by
     have h1 := h.1
     have h2 := h.2
     simp only [decide_eq_true_eq] at h1
     omega
   have hmem : ∀ b ∈ (r.banks.mergeSort fun a b => decide (a.1 <= b.1)), 0 <= b.1 /\ b.1 < 16 /\ b.2.length <= 16384 := fun b hb => hd.bk b (hperm.mem_iff.1 hb)
   unfold chk
   rw [if_pos hd.ds, bkE_of _ (-1) hmem hlt (fun b hb => by have := (hmem b hb).1; omega), if_pos rfl, if_pos hm]
  ·cases h
theorem pans_chk (s : ByteArray) (ds : List Df) (bs : List Bk) (h : pans s = .ok (ds, bs)) : chk ds bs = 0 /\ ds.all vd = true := by
 unfold pans at h
 split at h
 ·exact read_chk _ _ (ans_gt s) ds bs h
 ·cases h
end Go.Proofs.YtdnklgceghllaaaGreatDoor.M
namespace Go.Proofs.YtdnklgceghllaaaGreatDoor.M
open Go.RowKit
open Go.Proofs
open Go.Proofs.YtdnklgceghllaaaGreatDoor.K (Tk ans)
open Go.Proofs.YtdnklgceghllaaaGreatDoor.Y (Nd Df Ps Bk e0)
open Go.Proofs.YtdnklgceghllaaaGreatDoor.D (Rd Er Re next must add begin_ close turnElse turnWhile leave finish ctl isW standIn node bodyN PM name word define item numbered dataN bank itemsN rd0 rres read_is)
open Go.Proofs.YtdnklgceghllaaaGreatDoor.R (isNm lk dsE bkE chk)
set_option linter.unusedVariables false
set_option linter.unusedSimpArgs false
set_option maxRecDepth 100000
theorem bk_few : ∀ (bs : List Bk) (z : Int), -1 <= z -> z <= 15 -> bkE z bs = 0 -> (bs.length : Int) + z <= 15
 | [], z, h, h2, _ => by simpa using h2
 | b :: bs, z, h, h2, hb => by
  obtain ⟨h1, h2, h3, h4, h5⟩ := bkE_cons hb
  have := bk_few bs b.1 (by omega) (by omega) h5
  simp only [List.length_cons]
  omega
theorem chk_few {ds : List Df} {bs : List Bk} (h : chk ds bs = 0) : bs.length <= 140737488355328 := by
 have := bk_few bs (-1) (by omega) (by omega) (chk_is h).2.1
 omega
end Go.Proofs.YtdnklgceghllaaaGreatDoor.M
namespace Go.Proofs.YtdnklgceghllaaaGreatDoor.M
open Go.RowKit
open Go.Proofs
open Go.Proofs.YtdnklgceghllaaaGreatDoor.Y (Nd Df Ps Bk DV BV hid)
open Go.Proofs.YtdnklgceghllaaaGreatDoor.D (RdO New Er)
open Go.Proofs.YtdnklgceghllaaaGreatDoor.R (chk)
set_option linter.unusedVariables false
set_option linter.unusedSimpArgs false
set_option maxHeartbeats 4000000
set_option maxRecDepth 100000
theorem two_box (w : World) (dv xv p q : Value) : ∃ W2, (w.alloc (.cells #[dv, xv] 26)).alloc (.cells #[p, q] 28) = W2 /\ Below w.heap.size w W2 /\ W2.heap[w.heap.size]? = some (.cells [dv, xv].toArray 26 (0, 0)) /\ W2.heap[w.heap.size + 1]? = some (.cells [p, q].toArray 28 (0, 0)) :=
 ⟨_, rfl, ((Below.refl _ _).alloc (Nat.le_refl _) _).alloc (by simp) _, (Below.heap_alloc _ _ _ (by simp)).trans (heap_alloc_new w _), heap_alloc2_new w _ _⟩
theorem box2 {W w : World} {b : Nat} {x y : Value} {t : TypeId} (h : W.heap[b]? = some (.cells [x, y].toArray t (0, 0))) (k : Below W.heap.size W w) : w.cell? ⟨b, 0, none⟩ = some x /\ w.cell? ⟨b, 1, none⟩ = some y := by
 have h2 := (k.block _ (Array.getElem?_eq_some_iff.1 h).1).trans h
 exact ⟨S.cell_of w b 0 _ t _ h2 rfl, S.cell_of w b 1 _ t _ h2 rfl⟩
theorem dv_nil (w : World) (O : Nat -> Prop) : DV w O (.slice none 0 0) [] := ⟨none, 0, rfl, by simp, fun i d h => by simp at h⟩
theorem bv_nil (w : World) (O : Nat -> Prop) : BV w O (.slice none 0 0) [] := ⟨none, 0, rfl, fun i d h => by simp at h⟩
theorem prn1' : prn [df1] [] = (⟨#[58, 32, 109, 97, 105, 110, 32, 55, 32, 100, 114, 111, 112, 32, 59, 10]⟩, 0) := prn1
theorem df1_nm : ∀ d ∈ [df1], d.nm.size <= maxLen := fun d hd => by
 rw [List.mem_singleton] at hd
 rw [hd]
 decide
theorem fixed_any (W : World) (hT : P10 W) : Calls Tryz.prog 9 #[] W fun e w' => e = .returned (.bool true) /\ Below W.heap.size W w' := by
 have hc1 := parse_any tx1 (by decide) W
 rw [pans1] at hc1
 have hc2 := fun w => parse_any tx2 (by decide) w
 rw [pans2] at hc2
 unfold tx1 at hc1
 unfold tx2 at hc2
 have HT := hid hT
 clear hT
 go_enter Tryz.func9, Tryz.ntmps9
 go_wp2_with fail
 refine hc1.mono ?_
 rintro e w1 ⟨dv, xv, rfl, hD, hX, hb1⟩
 obtain ⟨p1, c1, e1, _⟩ := id hD
 obtain ⟨p2, c2, e2, _⟩ := id hX
 subst e1 e2
 simp only [List.length_cons, List.length_nil, Nat.zero_add] at hD hX ⊢
 obtain ⟨W2, hW2, hb2, u0, u1⟩ := two_box w1 (.slice p1 1 c1) (.slice p2 0 c2) (.int .i64 0) (.int .i64 0)
 have HH := hid (And.intro hD (And.intro hX (And.intro hb1 (And.intro hb2 (And.intro u0 u1)))))
 have HW2 := hid hW2
 clear hc1 hD hX hb1 hb2 u0 u1 hW2
 go_wp2_with fail
 rw [HW2.out]
 refine (hc2 W2).mono ?_
 rintro e w3 ⟨rfl, hb3⟩
 obtain ⟨W4, hW4, hb4, v0, v1⟩ := two_box w3 (.slice none 0 0) (.slice none 0 0) (.int .i64 1) (.int .i64 11)
 obtain ⟨hD, hX, hb1, hb2, u0, u1⟩ := HH.out
 have hb34 := hb3.trans (hb4.mono hb3.size)
 have hb24 : Below w1.heap.size w1 W4 := hb2.trans (hb34.mono hb2.size)
 obtain ⟨x0, x1⟩ := box2 u0 hb34
 obtain ⟨x2, x3⟩ := box2 u1 hb34
 obtain ⟨y0, y1⟩ := box2 v0 (Below.refl _ W4)
 obtain ⟨y2, y3⟩ := box2 v1 (Below.refl _ W4)
 have hB4 : Below W.heap.size W W4 := hb1.trans (hb24.mono hb1.size)
 have HX := hid (fun (w : World) (k : Below W4.heap.size W4 w) => box2 u0 (hb34.trans (k.mono hb34.size)))
 have HO := hid (fun (w : World) (k : Below W4.heap.size W4 w) => show (∀ j, New W w1 j -> j < w.heap.size) /\ DV w (New W w1) (.slice p1 1 c1) [df1] /\ BV w (New W w1) (.slice p2 0 c2) [] /\ P10 w /\ Below W.heap.size W w from by
  have hk : Below w1.heap.size w1 w := hb24.trans (k.mono hb24.size)
  have hW : Below W.heap.size W w := hB4.trans (k.mono hB4.size)
  exact ⟨fun j hj => Nat.lt_of_lt_of_le hj.2 hk.size, hD.below hk (fun j hj => hj.2), hX.below hk (fun j hj => hj.2), HT.out.below hW, hW⟩)
 clear hc2 hD hX hb1 hb2 u0 u1 v0 v1 hb3 hb4 hb34 hb24 hB4 HH
 have HW4 := hid hW4
 clear hW4
 go_upto_region 3 with fail
 rw [HW4.out]
 go_wp2_with fail
 obtain ⟨o1, o2, o3, o4, o5⟩ := HO.out W4 (Below.refl _ _)
 have hc3 := print_is [df1] [] df1_nm (by decide) _ _ _ W4 o1 o2 o3 o4
 rw [prn1'] at hc3
 clear o1 o2 o3 o4 o5
 refine hc3.mono ?_
 rintro e w5 ⟨rfl, hb5⟩
 obtain ⟨x0, x1⟩ := HX.out w5 hb5
 obtain ⟨o1, o2, o3, o4, o5⟩ := HO.out w5 hb5
 have hc4 := R.check_any [df1] [] df1_nm (by decide) _ _ _ w5 o1 o2 o3
 rw [chk1] at hc4
 have H5 := hid hb5
 clear hc3 hb5 o1 o2 o3 o4 o5 y0 y1 y2 y3 x2 x3
 go_wp2_with fail
 refine hc4.mono ?_
 rintro e w6 ⟨rfl, hb6⟩
 have hb46 := H5.out.trans (hb6.mono H5.out.size)
 obtain ⟨x0, x1⟩ := HX.out w6 hb46
 have hc5 := R.check_any [] [] (fun d hd => by cases hd) (by decide) _ _ (fun _ => False) w6 (fun j hj => hj.elim) (dv_nil _ _) (bv_nil _ _)
 rw [chk0] at hc5
 have H6 := hid hb46
 clear hc4 hb6 hb46 H5
 go_wp2_with fail
 refine hc5.mono ?_
 rintro e w7 ⟨rfl, hb7⟩
 have hb47 := H6.out.trans (hb7.mono H6.out.size)
 obtain ⟨x0, x1⟩ := HX.out w7 hb47
 obtain ⟨o1, o2, o3, o4, o5⟩ := HO.out w7 hb47
 have hc6 := same_any [df1] [df1] [] [] (by decide) _ _ _ _ _ w7 o1 o2 o3 o2 o3
 rw [smds_refl, smbs_refl, Bool.and_true] at hc6
 have H7 := hid hb47
 clear hc5 hb7 hb47 H6 o1 o2 o3 o4 o5
 go_wp2_with fail
 refine hc6.mono ?_
 rintro e w8 ⟨rfl, hb8⟩
 have hb48 := H7.out.trans (hb8.mono H7.out.size)
 obtain ⟨x0, x1⟩ := HX.out w8 hb48
 obtain ⟨o1, o2, o3, o4, o5⟩ := HO.out w8 hb48
 have hc7 := same_any [df1] [] [] [] (by decide) _ _ (.slice none 0 0) (.slice none 0 0) _ w8 o1 o2 o3 (dv_nil _ _) (bv_nil _ _)
 rw [show smds [df1] [] = false from rfl, Bool.false_and] at hc7
 have H8 := hid hb48
 clear hc6 hb8 hb48 H7 o1 o2 o3 o4 o5
 go_wp2_with fail
 refine hc7.mono ?_
 rintro e w9 ⟨rfl, hb9⟩
 have H9 := hid (HO.out w9 (H8.out.trans (hb9.mono H8.out.size))).2.2.2.2
 clear hc7 hb9
 go_wp2
 go_ret
 exact ⟨rfl, H9.out⟩
end Go.Proofs.YtdnklgceghllaaaGreatDoor.M
