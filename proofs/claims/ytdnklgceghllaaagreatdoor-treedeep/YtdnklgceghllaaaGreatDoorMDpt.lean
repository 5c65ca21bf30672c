import Derived.Test.YtdnklgceghllaaaGreatDoorMLd
import Derived.Test.YtdnklgceghllaaaGreatDoorMPrt
import Derived.Test.YtdnklgceghllaaaGreatDoorMSame
import Derived.Test.YtdnklgceghllaaaGreatDoorMPar
import Derived.Deep.RegionHeld
import Derived.WalkKit
import Derived.KernelRfl
import Derived.Below
import Derived.Lib.ConvBytes
import Derived.Lib.AtoiErrMem
set_option linter.unusedSimpArgs false
set_option linter.unusedVariables false
open Go.RowKit
open Go.Proofs
namespace Go.Proofs.YtdnklgceghllaaaGreatDoor
namespace D
section
variable {G : Program} {ops : Array Oper} {Q : Exit -> Act -> World -> Prop} {md : Region.Mode} {S : World -> Prop} {D : List Nat}
theorem waits_ne {i : Nat} (h : waits md ops D i = true) : i ∉ D := fun hi => by
 have := List.all_eq_true.1 h i hi
 simp at this
theorem waits_on {i d : Nat} {o : Oper} (h : waits md ops D i = true) (hd : d ∈ D) (ho : ops[d]? = some o) : ∃ e ∈ o.after, Region.binds md e = true /\ e.on = i := by
 have := List.all_eq_true.1 h d hd
 simp only [ho, Bool.and_eq_true, Array.any_eq_true] at this
 obtain ⟨_, k, hk, h1, h2⟩ := this
 exact ⟨_, Array.getElem_mem hk, h1, by simpa using h2⟩
theorem wpD_first {i : Nat} {oi : Oper} {v : Value} (hi : ops[i]? = some oi) (hsel : ∀ (j : Nat) (o : Oper) cs b, ops[j]? = some o -> o.op ≠ .select cs b)
  (hQ : ∀ c a w, Q (.panic c) (a.put oi.dst v) w -> Q (.panic c) a w) (hD : waits md ops D i = true) (n : Nat) :
  ∀ (l : Array Bool) (a : Act) (w : World), (∀ j oj, ops[j]? = some oj -> j ≠ i -> l.getD j true = false -> (∀ e ∈ oj.after, Region.binds md e = true -> e.on ≠ i) -> oi.apart ops oj = true) ->
   i ∈ Region.ready md ops l -> YieldsIf G ops S oi v a -> Un D l -> S w -> wpD G md ops Q S D n (l.setIfInBounds i true) (a.put oi.dst v) w -> wpD G md ops Q S D (n + 1) l a w := by
 have none0 : ∀ {l : Array Bool}, i ∈ Region.ready md ops l -> Region.ready md ops l = [] -> False := fun h e => by rw [e] at h; cases h
 induction n with
 | zero =>
  intro l a w hf hr hy hu hS H
  refine ⟨fun e => (none0 hr e).elim, fun j hj => ?_⟩
  by_cases e : j = i
  ·rw [e]; exact hy.wpOp hi hS ⟨fun _ => hS, H⟩
  ·have h0 := ready_mono hj e
   rw [H.1] at h0
   cases h0
 | succ n ih =>
  intro l a w hf hr hy hu hS H
  refine ⟨fun e => (none0 hr e).elim, fun j hj => ?_⟩
  by_cases e : j = i
  ·rw [e]; exact hy.wpOp hi hS ⟨fun _ => hS, H⟩
  ·obtain ⟨hjun, oj, hoj, hall⟩ := mem_ready.1 hj
   have hiun := (mem_ready.1 hr).1
   have hfar : ∀ x ∈ oj.after, Region.binds md x = true -> x.on ≠ i := fun x hx hb he => by
    have h1 := hall x hx hb
    rw [he] at h1
    rcases Nat.lt_or_ge i l.size with g | g
    ·simp [g] at hiun h1; rw [hiun] at h1; cases h1
    ·simp [Array.getElem?_eq_none g] at h1
   have hjD : j ∉ D := fun h => by
    obtain ⟨x, hx, hb, he⟩ := waits_on hD h hoj
    exact hfar x hx hb he
   have uj : Un D (l.setIfInBounds j true) := un_set hu hjD
   have uij : Un D ((l.setIfInBounds i true).setIfInBounds j true) := un_set (un_set hu (waits_ne hD)) hjD
   have hstep := wpOp_putIf hoj (hf j oj hoj e hjun hfar) (fun cs b => hsel i oi cs b hi) (fun cs b => hsel j oj cs b hoj) hQ hy (H.2 j (ready_mono hj e))
   refine wpOp_mono (fun b u k => ?_) hstep
   have hSu : S u := k.2.1 uij
   refine ⟨fun _ => hSu, ih _ b u (fun m om hm hmi hun hno => hf m om hm hmi ?_ hno) (ready_mono hr (Ne.symm e)) k.1 uj hSu ?_⟩
   ·by_cases hjm : j = m
    ·rw [<- hjm]; exact hjun
    ·rw [getD_set_ne true hjm] at hun; exact hun
   ·rw [Array.setIfInBounds_comm _ _ e]
    exact k.2.2
theorem wpD_take {i : Nat} {oi : Oper} {v : Value} {n : Nat} {l : Array Bool} {a : Act} {w : World} (hi : ops[i]? = some oi) (hs : Region.noSelect ops = true) (hf : Region.free md ops l i = true)
  (hr : (Region.ready md ops l).contains i = true) (hD : waits md ops D i = true) (hu : (D.all fun d => !(l.getD d true)) = true) (hQ : ∀ c a w, Q (.panic c) (a.put oi.dst v) w -> Q (.panic c) a w) (hy : YieldsIf G ops S oi v a) (hS : S w)
  (h : wpD G md ops Q S D n (l.setIfInBounds i true) (a.put oi.dst v) w) : wpD G md ops Q S D (n + 1) l a w :=
 wpD_first hi (Region.noSelect_spec hs) hQ hD n l a w (Region.free_spec hi hf) (by simpa using hr) hy (fun d hd => by simpa using List.all_eq_true.1 hu d hd) hS h
end
end D
namespace Y
def cn (k : Int) (has : Bool) (a b : Int) : Int :=
 if k = 1 \/ k = 3 \/ k = 9 then 1 else if k = 2 then 2 else if k = 4 then (if has then 4 + a + b else 2 + a) else if k = 5 \/ k = 7 then a + 2 else if k = 6 then a + b + 4 else if k = 8 then a + 3 else 0
def ce : Nd -> Int
 | ⟨k, _, _, _, th, el, has, _⟩ => cn k has (th.map ce).sum (el.map ce).sum
def cl (l : List Nd) : Int := (l.map ce).sum
def db (d : Df) : Int := if d.k = 1 then 4 + 2 * cl d.body else if d.k = 2 \/ d.k = 3 then 4 else 0
def dr (d : Df) : Int := if d.k = 3 then d.v else 0
def wt (r : Rm) (d : Df) : Rm := (wrap64 (r.1 + 1), wrap64 (r.2.1 + db d), wrap64 (r.2.2 + dr d))
end Y
namespace Y
theorem N1.mk {W : World} {O : Nat -> Prop} {b o : Nat} {n : Nd} (tv ev : Value) (h : ∀ (j : Nat) (x : Value), (ndc n tv ev)[j]? = some x -> W.cell? ⟨b, o + j, none⟩ = some x) (ht : NV W O tv n.th) (he : NV W O ev n.el) : N1 W O b o n := ⟨tv, ev, h, ht, he⟩
theorem NA.nil (W : World) (O : Nat -> Prop) (b o : Nat) : NA W O b o [] := fun i n h => by simp at h
theorem NA.cons {W : World} {O : Nat -> Prop} {b o : Nat} {n : Nd} {r : List Nd} (h : N1 W O b o n) (k : NA W O b (o + 9) r) : NA W O b o (n :: r)
 | 0, m, hi => by simp at hi; subst hi; simpa using h
 | i + 1, m, hi => by
  have := k i m (by simpa using hi)
  rw [show o + (i + 1) * 9 = o + 9 + i * 9 by omega]
  exact this
end Y
namespace M
open Go.Proofs.YtdnklgceghllaaaGreatDoor.K (Tk)
open Go.Proofs.YtdnklgceghllaaaGreatDoor.Y (Nd Df Ps e0)
open Go.Proofs.YtdnklgceghllaaaGreatDoor.D (Rd Er Re next must add ctl isW lit prm cll define known PM)
open Go.Proofs.YtdnklgceghllaaaGreatDoor.R (lk)
set_option maxRecDepth 100000
section
variable (rs im : ByteArray -> Bool) (kn : Rd -> ByteArray -> Bool) (pr : ByteArray -> Option Int) (e : Ps)
def nodeG (r : Rd) : Re :=
 if r.at_.k == 2 then .ok (add (lit r.at_.v r.at_.p) r)
 else match ctl r.at_.t with
 | some f => f r
 | none =>
  if kn r r.at_.t then .ok (add (cll r.at_.t r.at_.p) r)
  else match pr r.at_.t with
  | some op => .ok (add (prm op r.at_.p) r)
  | none => .error (r.at_.p, if rs r.at_.t then 104 else 103)
def bodyG : Nat -> Rd -> Re
 | 0, r => .ok r
 | n + 1, r => if r.ended then .ok r else do
  let r ← next e r
  let r ← nodeG rs kn pr r
  bodyG n r
def nameG (r : Rd) : Re := do
 let r ← next e r
 must (im r.at_.t) r.at_ 101
 must (!kn r r.at_.t) r.at_ 102
 .ok r
def wordG (r : Rd) : Re := do
 let r ← nameG im kn e r
 let t := r.at_
 let r ← bodyG rs kn pr e (r.rest.length + 1) { r with body := [], opn := [], ended := false }
 .ok (define 1 t 0 r.body r)
def numberedG (num : Tk) (r : Rd) : Re := do
 let r ← next e r
 if isW r.at_.t [99, 111, 110, 115, 116, 97, 110, 116] then do
  let r ← nameG im kn e r
  .ok (define 2 r.at_ num.v [] r)
 else if isW r.at_.t [98, 117, 102, 102, 101, 114] then do
  must (decide (num.v <= 16384)) num 106
  let r ← nameG im kn e r
  .ok (define 3 r.at_ num.v [] r)
 else if isW r.at_.t [98, 97, 110, 107] then D.bank e num r
 else .error (r.at_.p, 100)
def itemG (r : Rd) : Re := do
 let r ← next e r
 if r.at_.k == 2 then numberedG im kn e r.at_ r
 else if isW r.at_.t [58] then wordG rs im kn pr e r
 else if isW r.at_.t [118, 97, 114, 105, 97, 98, 108, 101] then do
  let r ← nameG im kn e r
  .ok (define 3 r.at_ 2 [] r)
 else .error (r.at_.p, 100)
def itemsG : Nat -> Rd -> Re
 | 0, r => .ok r
 | n + 1, r => if r.rest.isEmpty then .ok r else do
  let r ← itemG rs im kn pr e r
  itemsG n r
end
theorem bodyG_is (pr : ByteArray -> Option Int) (e : Ps) : ∀ (n : Nat), D.bodyN pr e n = bodyG R.isRes known pr e n
 | 0 => rfl
 | n + 1 => by
  funext r
  rw [D.bodyN, bodyG, bodyG_is pr e n]
  rfl
theorem wordG_is (pr : ByteArray -> Option Int) (e : Ps) : D.word pr e = wordG R.isRes R.isNm known pr e := by
 funext r
 unfold D.word wordG
 simp only [bodyG_is]
 rfl
theorem itemG_is (pr : ByteArray -> Option Int) (e : Ps) : D.item pr e = itemG R.isRes R.isNm known pr e := by
 funext r
 unfold D.item itemG
 rw [wordG_is]
 rfl
theorem itemsG_is (pr : ByteArray -> Option Int) (e : Ps) : ∀ (n : Nat) (r : Rd), D.itemsN pr e n r = itemsG R.isRes R.isNm known pr e n r
 | 0, r => rfl
 | n + 1, r => by
  rw [D.itemsN, itemsG, itemG_is, show D.itemsN pr e n = itemsG R.isRes R.isNm known pr e n from funext (itemsG_is pr e n)]
theorem list_inj {a b : ByteArray} (h : a.data.toList = b.data.toList) : a = b := ByteArray.ext (Array.toList_inj.1 h)
def isB (a b : ByteArray) : Bool := a.data.toList == b.data.toList
theorem isB_is (a b : ByteArray) : decide (a = b) = isB a b := by
 unfold isB
 by_cases h : a = b
 ·subst h; simp
 ·rw [decide_eq_false h]
  symm
  rw [beq_eq_false_iff_ne]
  exact fun c => h (list_inj c)
def prF (s : ByteArray) : Bool := !s.data.toList.isEmpty && P.allN.any fun x => (P.nm x).data.toList == s.data.toList
def rsF (s : ByteArray) : Bool := (R.resL.any fun l => s.data.toList == l) || prF s
def imF (s : ByteArray) : Bool := T.nameB s.data.toList && !rsF s
def knF (r : Rd) (s : ByteArray) : Bool := (r.defs.map (·.nm)).any fun x => isB x s
theorem rs_is : R.isRes = rsF := by
 funext s
 simp only [R.isRes, rsF, R.resW, R.prN, prF, ByteArray.toList_eq]
theorem im_is : R.isNm = imF := by
 funext s
 rw [R.isNm, rs_is, imF]
theorem kn_is : known = knF := by
 funext r s
 simp only [known, knF, isB_is]
def PL : R.En := (⟨#[]⟩, 8) :: (List.range' 9 55).map fun x => (P.nm x, (x : Int))
theorem PM_is : PM = PL := by kernel_rfl
def lkF : R.En -> ByteArray -> Option Int
 | [], _ => none
 | (s, v) :: r, x => if isB s x then some v else lkF r x
theorem lkF_is (L : R.En) (x : ByteArray) : lk L x = lkF L x := by
 induction L with
 | nil => rfl
 | cons a r ih =>
  obtain ⟨s, v⟩ := a
  rw [lk, lkF, ih, <- isB_is]
  by_cases h : s = x <;> simp [h]
theorem lk_is : lk PM = lkF PL := by
 funext x
 rw [PM_is, lkF_is]
theorem itemsF_is (e : Ps) (n : Nat) (r : Rd) : D.itemsN (lk PM) e n r = itemsG rsF imF knF (lkF PL) e n r := by
 rw [itemsG_is, rs_is, im_is, kn_is, lk_is]
end M
namespace M
open Go.Proofs.YtdnklgceghllaaaGreatDoor.K (Tk ans)
open Go.Proofs.YtdnklgceghllaaaGreatDoor.Y (Nd Df Ps)
open Go.Proofs.YtdnklgceghllaaaGreatDoor.D (Rd Er Re rres rd0 read_is PM)
open Go.Proofs.YtdnklgceghllaaaGreatDoor.R (lk)
set_option maxRecDepth 100000
def tx1 : ByteArray := ⟨#[58, 32, 109, 97, 105, 110, 32, 55, 32, 100, 114, 111, 112, 32, 59]⟩
def tx2 : ByteArray := ⟨#[58, 32, 109, 97, 105, 110, 32, 105, 102, 32, 59]⟩
def run (s : ByteArray) : Re := itemsG rsF imF knF (lkF PL) (T.place s.data.toList s.size) ((ans s).1.length + 1) (rd0 (ans s).1)
theorem pans_run (s : ByteArray) (h : (ans s).2.2 = 0) : pans s = rres (T.place s.data.toList s.size) (run s) := by
 unfold pans run
 rw [if_pos h, read_is, itemsF_is]
def mn : ByteArray := ⟨#[109, 97, 105, 110]⟩
def df1 : Df := ⟨1, mn, 0, [D.lit 7 (1, 8), D.prm 13 (1, 10)], (1, 3)⟩
theorem ans1 : (ans tx1).2.2 = 0 := by kernel_rfl
theorem ans2 : (ans tx2).2.2 = 0 := by kernel_rfl
theorem run1 : (match run tx1 with | .ok r => some (r.defs, r.banks) | .error _ => none) = some ([df1], []) := by kernel_rfl
theorem run2 : (match run tx2 with | .ok r => none | .error e => some e) = some ((1, 11), 104) := by kernel_rfl
theorem pans1 : pans tx1 = .ok ([df1], []) := by
 rw [pans_run _ ans1]
 have h := run1
 revert h
 cases run tx1 with
 | error e => intro h; cases h
 | ok r =>
  intro h
  simp only [Option.some.injEq, Prod.mk.injEq] at h
  show (if r.defs.any R.isMain = true then _ else _) = _
  rw [h.1, h.2, if_pos (by kernel_rfl)]
  simp
theorem pans2 : pans tx2 = .error ((1, 11), 104) := by
 rw [pans_run _ ans2]
 have h := run2
 revert h
 cases run tx2 with
 | error e => intro h; simp only [Option.some.injEq] at h; rw [h]; rfl
 | ok r => intro h; cases h
end M
namespace M
open Go.Proofs.YtdnklgceghllaaaGreatDoor.Y (Nd Df Ps Bk ndc dfc NV NA N1 cells6 cells9 hid)
set_option maxHeartbeats 4000000
set_option maxRecDepth 100000
theorem dw_ne (d : Df) : dw d ≠ [] := by
 unfold dw
 split
 ·simp
 ·split
  ·simp
  ·split <;> simp
end M
namespace M
open Go.Proofs.YtdnklgceghllaaaGreatDoor.Y (Nd Df Ps Bk BS hid)
set_option maxHeartbeats 4000000
set_option maxRecDepth 100000
theorem bw_ne (b : Bk) : bw b ≠ [] := by unfold bw; simp
end M
namespace M
open Go.Proofs.YtdnklgceghllaaaGreatDoor.Y (Nd Df Ps Bk)
open Go.Proofs.YtdnklgceghllaaaGreatDoor.R (chk ck cks dfE dsE bkE isNm own1 fits inn)
theorem fits_pr {names : List ByteArray} {n : Nd} (h : fits names n = true) (hk : n.k = 1) : 9 <= n.op /\ n.op <= 63 := by
 unfold fits at h
 rw [if_pos hk, Bool.and_eq_true, decide_eq_true_eq, decide_eq_true_eq] at h
 exact h
end M
namespace M
open Go.Proofs.YtdnklgceghllaaaGreatDoor.Y (Nd Df Ps Bk)
open Go.Proofs.YtdnklgceghllaaaGreatDoor.R (chk ck cks dfE dsE)
set_option maxRecDepth 100000
theorem e0_list : Y.e0.toList = [] := by rw [ByteArray.toList_eq]; rfl
theorem cks1 : cks [] [D.lit 7 (1, 8), D.prm 13 (1, 10)] (0, false) = 0 := by
 have a : R.own1 [] (D.lit 7 (1, 8)) (0, false) = 0 := by
  simp [R.own1, R.uses, R.usesF, D.lit, e0_list, R.fits, R.strc]
 have b : R.own1 [] (D.prm 13 (1, 10)) (0, false) = 0 := by
  simp [R.own1, R.uses, R.usesF, D.prm, e0_list, R.fits, R.strc]
 rw [R.cks_cons, R.ck_is, if_pos a]
 simp only [D.lit, R.cks_nil, if_true]
 rw [R.cks_cons, R.ck_is, if_pos b]
 simp [D.prm, R.cks_nil]
theorem chk1 : chk [df1] [] = 0 := by
 have hn : R.isNm mn = true := by rw [im_is]; kernel_rfl
 have hd : dfE [] df1 = 0 := by
  unfold dfE
  simp [df1, R.fieldsF, hn, cks1]
 unfold chk
 rw [dsE, if_pos hd]
 have hm : ([df1].any R.isMain) = true := by kernel_rfl
 simp [dsE, R.bkE, hm]
theorem chk0 : chk [] [] = 107 := rfl
theorem dcm7 : dcm 7 = ⟨#[55]⟩ := by
 have : (Lib.itoa (wrap64 7)) = [55] := by
  rw [show wrap64 7 = 7 from by unfold wrap64; omega]
  unfold Lib.itoa
  rw [if_neg (by decide)]
  exact Lib.decDigits_one (i := 7) (by decide)
 unfold dcm
 rw [this]
def pt1 : List UInt8 := [58, 32, 109, 97, 105, 110, 32, 55, 32, 100, 114, 111, 112, 32, 59, 10]
theorem ptx1 : ptx [df1] [] = pt1 := by
 have h : dw df1 = [wColon, mn, ⟨#[55]⟩, P.nm 13, wSemi] := by
  unfold dw
  simp only [df1, if_true, nws_cons, nws_nil, nw_is, D.lit, D.prm]
  simp [nwf, dcm7, pn]
 show endL (puts [] (dw df1)) = _
 rw [h]
 kernel_rfl
theorem prn1 : prn [df1] [] = (⟨pt1.toArray⟩, 0) := by
 unfold prn
 rw [if_pos chk1, ptx1, if_neg (by decide)]
theorem sm_refl (n : Nd) : sm n n = true := by
 refine Y.Nd.ind (P := fun n => sm n n = true) ?_ n
 intro n h1 h2
 have hl : ∀ l : List Nd, (∀ m ∈ l, sm m m = true) -> sml l l = true := by
  intro l
  induction l with
  | nil => intro _; rfl
  | cons a r ih =>
   intro h
   rw [sml_cc, h a (by simp), ih fun m hm => h m (by simp [hm])]
   rfl
 obtain ⟨k, op, v, nm, th, el, has, p⟩ := n
 rw [sm_mk, hl th h1, hl el h2]
 simp
theorem sml_refl : ∀ l : List Nd, sml l l = true
 | [] => rfl
 | n :: r => by rw [sml_cc, sm_refl, sml_refl r]; rfl
theorem smds_refl (l : List Df) : smds l l = true := smds_all l l rfl fun i a b ha hb => by
 rw [ha] at hb
 cases hb
 simp [smd, sml_refl]
theorem smbs_refl (l : List Bk) : smbs l l = true := smbs_all l l rfl fun i a b ha hb => by
 rw [ha] at hb
 cases hb
 simp [smb]
end M
namespace K
open Go.Proofs.YtdnklgceghllaaaGreatDoor
open Go.Proofs.YtdnklgceghllaaaGreatDoor.T (numE numC stepP place place_succ)
theorem take_get (l : List UInt8) (m i : Nat) (h : i < m) (hl : i < l.length) : (l.take m)[i]'(by rw [List.length_take]; omega) = l[i] := by simp
theorem wend_take (l : List UInt8) (m : Nat) (hm : m <= l.length) : ∀ i, i <= m -> wend l i <= m -> wend (l.take m) i = wend l i := by
  intro i
  generalize hn : m - i = n
  induction n generalizing i with
  | zero =>
    intro hi hw
    have h1 := wend_ge l i
    rw [wend_out (l.take m) i (by rw [List.length_take]; omega)]; omega
  | succ n ih =>
    intro hi hw
    have hlt : i < l.length := by omega
    have hlt2 : i < (l.take m).length := by rw [List.length_take]; omega
    have hg := take_get l m i (by omega) hlt
    cases hv : T.seen l[i].toNat with
    | true =>
      rw [wend_yes l i hlt hv] at hw ⊢
      rw [wend_yes (l.take m) i hlt2 (by rw [hg]; exact hv)]
      exact ih (i + 1) (by omega) (by omega) hw
    | false => rw [wend_no l i hlt hv, wend_no (l.take m) i hlt2 (by rw [hg]; exact hv)]
theorem wd_take (l : List UInt8) (m i j : Nat) (h : j <= m) : wd (l.take m) i j = wd l i j := by
  unfold wd; rw [List.drop_take, List.take_take]; congr 1; omega
theorem nxt_take (c : Nat) (l : List UInt8) (m : Nat) (hm : m <= l.length) : ∀ i k, i <= m -> nxt c l i = some k -> k <= m -> nxt c (l.take m) i = some k := by
  intro i
  generalize hn : m - i = n
  induction n generalizing i with
  | zero => intro k hi h hk; have := nxt_in c l i k h; omega
  | succ n ih =>
    intro k hi h hk
    have hlt : i < l.length := by omega
    have hlt2 : i < (l.take m).length := by rw [List.length_take]; omega
    have hg := take_get l m i (by omega) hlt
    by_cases hc : l[i].toNat = c
    · rw [nxt_yes c l i hlt hc] at h
      rw [nxt_yes c (l.take m) i hlt2 (by rw [hg]; exact hc)]; exact h
    · rw [nxt_no c l i hlt hc] at h
      rw [nxt_no c (l.take m) i hlt2 (by rw [hg]; exact hc)]
      exact ih (i + 1) (by omega) k (by omega) h hk
theorem getD_take (l : List UInt8) (m i : Nat) (h : i < m) (hl : i < l.length) : (l.take m).getD i 0 = l.getD i 0 := by
  rw [List.getD_eq_getElem?_getD, List.getD_eq_getElem?_getD, List.getElem?_take, if_pos h]
theorem sp_take (l : List UInt8) (m i : Nat) (hm : m <= l.length) (hi : i < m) (j : Nat) (hj : j <= m) (e : sp l i = .ok (.inl j) \/ sp l i = .ok (.inr j)) : sp (l.take m) i = sp l i := by
  have hl : i < l.length := by omega
  have hlt : (l.take m).length = m := by rw [List.length_take]; omega
  by_cases hfull : m = l.length
  · rw [hfull, List.take_length]
  rcases sp_cases l i hl with ⟨h1, h2, h3, h⟩ | ⟨h1, h2, h3, h⟩ | ⟨h1, h2, h, h3⟩ | ⟨h1, h2, h3, h4, h⟩ | ⟨k, h1, h2, h3, h4, h⟩ | ⟨q, h1, h0, h2, h3, h4, h⟩ | ⟨q, h1, h0, h2, h3, h4, h5, h⟩ | ⟨q, h1, h0, h2, h3, h4, h5, h⟩
  · have hw := wend_take l m hm i (by omega) (by omega)
    rw [h]; unfold sp; rw [hw, if_pos h1, getD_take l m i hi hl, if_pos h3]
  · rw [h] at e; rcases e with e | e <;> cases e
  · have hw := wend_take l m hm i (by omega) (by omega)
    cases hx : nxt 10 l i with
    | none =>
      rw [h, hx] at e
      rcases e with e | e
      · simp at e; omega
      · cases e
    | some k =>
      rw [h, hx] at e
      have hk : k <= m := by
        rcases e with e | e
        · simp at e; omega
        · cases e
      rw [hx] at h3
      have hn := nxt_take 10 l m hm (i + 1) k (by omega) h3 hk
      rw [h, hx]; unfold sp; rw [hw, if_neg (by omega), h1]; unfold spW; rw [wd_take l m i (i + 1) (by omega), if_pos h2, hn]; rfl
  · rw [h] at e; rcases e with e | e <;> cases e
  · have hw := wend_take l m hm i (by omega) (by omega)
    have hk : k <= m := by
      rw [h] at e
      rcases e with e | e
      · simp at e; omega
      · cases e
    have hn := nxt_take 41 l m hm (i + 1) k (by omega) h4 hk
    rw [h]; unfold sp; rw [hw, if_neg (by omega), h1]; unfold spW; rw [wd_take l m i (i + 1) (by omega), if_neg (by rw [h2]; decide), if_pos h2, hn]
  · rw [h] at e; rcases e with e | e <;> cases e
  · rw [h] at e; rcases e with e | e <;> cases e
  · have hq : q <= m := by
      rw [h] at e
      rcases e with e | e
      · cases e
      · simp at e; omega
    have hw := wend_take l m hm i (by omega) (by omega)
    rw [h]; unfold sp; rw [hw, if_neg (by omega), h1]; unfold spW; rw [wd_take l m i q hq, if_neg h2, if_neg h3, if_neg (by omega), if_neg h5]
structure Pre (l : List UInt8) (i : Nat) (a : List (Nat × Nat)) : Prop where
  run : ∀ m, i <= m -> m <= l.length -> At (l.take m) i a
  toks : ∀ k (h : k < a.length), sc (l.take a[k].2) = (a.take (k + 1), a[k].2, 0)
  ends : ∀ k (h : k < a.length), a[k].1 < a[k].2 /\ a[k].2 <= i /\ a[k].2 - a[k].1 <= 31
  rise : ∀ k (h : k + 1 < a.length), a[k].2 <= a[k + 1].1
theorem Pre.to {l : List UInt8} {i j : Nat} {a : List (Nat × Nat)} (h : Pre l i a) (hi : i < l.length) (e : sp l i = .ok (.inl j)) : Pre l j a := by
  have hj := sp_to l i j hi e
  refine ⟨fun m hm hl => ?_, h.toks, fun k hk => ⟨(h.ends k hk).1, by have := (h.ends k hk).2.1; omega, (h.ends k hk).2.2⟩, h.rise⟩
  have hsp := sp_take l m i hl (by omega) j hm (.inl e)
  exact (h.run m (by omega) hl).to (by rw [List.length_take]; omega) (by rw [hsp]; exact e)
theorem Pre.wo {l : List UInt8} {i j : Nat} {a : List (Nat × Nat)} (h : Pre l i a) (hi : i < l.length) (e : sp l i = .ok (.inr j)) : Pre l j (a ++ [(i, j)]) := by
  have hj := sp_wo l i j hi e
  have hrun : ∀ m, j <= m -> m <= l.length -> At (l.take m) j (a ++ [(i, j)]) := fun m hm hl => by
    have hsp := sp_take l m i hl (by omega) j hm (.inr e)
    exact (h.run m (by omega) hl).wo (by rw [List.length_take]; omega) (by rw [hsp]; exact e)
  refine ⟨hrun, fun k hk => ?_, fun k hk => ?_, fun k hk => ?_⟩
  · by_cases hka : k < a.length
    · have h1 := h.toks k hka
      rw [List.getElem_append_left hka, List.take_append_of_le_length (by omega)]; exact h1
    · obtain rfl : k = a.length := by simp at hk; omega
      have h1 := (hrun j (Nat.le_refl _) hj.2.1).fin (by rw [List.length_take]; omega)
      have h2 : (a ++ [(i, j)])[a.length] = (i, j) := by simp
      have h3 : (a ++ [(i, j)]).take (a.length + 1) = a ++ [(i, j)] := List.take_of_length_le (by simp)
      rw [h2, h3]
      exact h1
  · by_cases hka : k < a.length
    · have h1 := h.ends k hka
      rw [List.getElem_append_left hka]; exact ⟨h1.1, by omega, h1.2.2⟩
    · obtain rfl : k = a.length := by simp at hk; omega
      have h2 : (a ++ [(i, j)])[a.length] = (i, j) := by simp
      rw [h2]; exact ⟨hj.1, Nat.le_refl _, hj.2.2.2.2.2.1⟩
  · by_cases hka : k + 1 < a.length
    · have h1 := h.rise k hka
      rw [List.getElem_append_left hka, List.getElem_append_left (by omega)]; exact h1
    · have hk1 : k + 1 = a.length := by simp at hk; omega
      have h2 : (a ++ [(i, j)])[k + 1]'hk = (i, j) := by simp [hk1]
      have h3 : k < a.length := by omega
      have h4 := (h.ends k h3).2.1
      rw [h2, List.getElem_append_left h3]; exact h4
theorem sc_pre (l : List UInt8) : Pre l (sc l).2.1 (sc l).1 := by
  obtain ⟨i, a, hA, hP, h⟩ := At.ends l (P := fun i a => Pre l i a)
    ⟨fun m _ _ => At.start _, fun k h => by simp at h, fun k h => by simp at h, fun k h => by simp at h⟩
    (fun i j a _ h hi e => h.to hi e) (fun i j a _ h hi e => h.wo hi e)
  rcases h with ⟨_, e⟩ | ⟨x, _, _, e⟩ <;> rw [e] <;> exact hP
theorem sc_err (l : List UInt8) : (sc l).2.2 = 0 \/ (sc l).2.2 = 91 \/ (sc l).2.2 = 92 \/ (sc l).2.2 = 93 \/ (sc l).2.2 = 21 := by
  obtain ⟨i, a, hA, hP, h⟩ := At.ends l (P := fun _ _ => True) trivial (fun _ _ _ _ _ _ _ => trivial) (fun _ _ _ _ _ _ _ => trivial)
  rcases h with ⟨_, e⟩ | ⟨x, _, hx, e⟩
  · left; rw [e]
  · right; rw [e]; exact sp_no l i x hx
end K
namespace K
open Go.Proofs.YtdnklgceghllaaaGreatDoor
open Go.Proofs.YtdnklgceghllaaaGreatDoor.T (numE numC)
structure Gd (w : List UInt8) : Prop where
 ne : w ≠ []
 seen : ∀ c ∈ w, T.seen c.toNat = true
 n1 : w ≠ [92]
 n2 : w ≠ [40]
 le : w.length <= 31
 num : numE w ≠ 21
theorem wl_seen (l : List UInt8) : ∀ c ∈ l.take (wl l), T.seen c.toNat = true := by
 induction l with
 | nil => intro c h; simp at h
 | cons x t ih =>
  unfold wl
  split
  ·intro c h
   rw [List.take_succ_cons] at h
   rcases List.mem_cons.1 h with rfl | h
   ·assumption
   ·exact ih c h
  ·intro c h; simp at h
theorem wl_word (w r : List UInt8) (hw : ∀ c ∈ w, T.seen c.toNat = true) (hr : r = [] \/ ∃ c t, r = c :: t /\ T.seen c.toNat = false) : wl (w ++ r) = w.length := by
 induction w with
 | nil =>
  rcases hr with rfl | ⟨c, t, rfl, hc⟩
  ·rfl
  ·simp [wl, hc]
 | cons x t ih =>
  have hx := hw x (List.mem_cons_self ..)
  rw [List.cons_append, wl, if_pos hx, ih (fun c h => hw c (List.mem_cons_of_mem _ h))]; rfl
theorem sc_good (l : List UInt8) : ∀ q ∈ (sc l).1, Gd (wd l q.1 q.2) := by
 obtain ⟨i, a, hA, hP, h⟩ := At.ends l (P := fun i a => ∀ q ∈ a, Gd (wd l q.1 q.2)) (by simp) (fun i j a _ h _ _ => h) (fun i j a hA h hi e => by
  have hs := sp_wo l i j hi e
  intro q hq
  rcases List.mem_append.1 hq with hq | hq
  ·exact h q hq
  ·simp at hq; subst hq
   refine ⟨wd_ne l i j hs.2.1 hs.1, ?_, hs.2.2.2.1, hs.2.2.2.2.1, by rw [wd_len l i j hs.2.1]; exact hs.2.2.2.2.2.1, hs.2.2.2.2.2.2⟩
   have e : wd l i j = (l.drop i).take (wl (l.drop i)) := by unfold wd; rw [hs.2.2.1]; unfold wend; rw [Nat.add_sub_cancel_left]
   show ∀ c ∈ wd l i j, _
   rw [e]; exact wl_seen _)
 rcases h with ⟨_, e⟩ | ⟨x, _, _, e⟩ <;> rw [e] <;> exact hP
theorem drop_at (p x : List UInt8) : (p ++ x).drop p.length = x := by simp
theorem wd_mid (p w r : List UInt8) : wd (p ++ (w ++ r)) p.length (p.length + w.length) = w := by
 unfold wd; rw [drop_at, Nat.add_sub_cancel_left]; simp
theorem sp_word (p w r : List UInt8) (hw : Gd w) (hr : r = [] \/ ∃ c t, r = c :: t /\ T.seen c.toNat = false) : sp (p ++ (w ++ r)) p.length = .ok (.inr (p.length + w.length)) := by
 have h1 : wend (p ++ (w ++ r)) p.length = p.length + w.length := by unfold wend; rw [drop_at, wl_word w r hw.seen hr]
 have h2 : 0 < w.length := List.length_pos_iff.2 hw.ne
 unfold sp
 rw [h1, if_neg (by omega)]
 unfold spW
 rw [wd_mid, if_neg hw.n1, if_neg hw.n2, if_neg (by have := hw.le; omega), if_neg hw.num]
theorem getD_at (p : List UInt8) (c : UInt8) (r : List UInt8) : (p ++ (c :: r)).getD p.length 0 = c := by
 rw [List.getD_eq_getElem?_getD, List.getElem?_append_right (Nat.le_refl _), Nat.sub_self]; rfl
theorem sp_blank (p : List UInt8) (c : UInt8) (r : List UInt8) (hc : bk c.toNat = true) (hs : T.seen c.toNat = false) : sp (p ++ (c :: r)) p.length = .ok (.inl (p.length + 1)) := by
 have h1 : wend (p ++ (c :: r)) p.length = p.length := by unfold wend; rw [drop_at]; simp [wl, hs]
 unfold sp
 rw [if_pos h1, getD_at, if_pos hc]
structure Sep (s : List UInt8) : Prop where
 hd : ∃ c t, s = c :: t /\ T.seen c.toNat = false
 skip : ∀ p r a, At (p ++ (s ++ r)) p.length a -> At (p ++ (s ++ r)) (p.length + s.length) a
theorem step_blank (p r : List UInt8) (c : UInt8) (a : List (Nat × Nat)) (hc : bk c.toNat = true) (hs : T.seen c.toNat = false) (h : At (p ++ (c :: r)) p.length a) : At (p ++ (c :: r)) (p.length + 1) a :=
 h.to (by simp) (sp_blank p c r hc hs)
theorem sep_one : Sep [32] := ⟨⟨32, [], rfl, by decide⟩, fun p r a h => step_blank p r 32 a (by decide) (by decide) h⟩
end K
namespace M
open Go.Proofs.YtdnklgceghllaaaGreatDoor.T (val val_nil val_snoc stepV dig numI numC numE quo)
theorem dig_ch (d : Nat) (h : d < 10) : dig (UInt8.ofNat (48 + d)).toNat = d /\ 48 <= (UInt8.ofNat (48 + d)).toNat /\ (UInt8.ofNat (48 + d)).toNat <= 57 := by
 have key : ∀ e : Fin 10, dig (UInt8.ofNat (48 + e.val)).toNat = e.val /\ 48 <= (UInt8.ofNat (48 + e.val)).toNat /\ (UInt8.ofNat (48 + e.val)).toNat <= 57 := by decide
 exact key ⟨d, h⟩
theorem dd_small (u : Nat) (h : u < 10) : Lib.decDigits u = [UInt8.ofNat (48 + u)] := by rw [Lib.decDigits, dif_pos h]
theorem dd_great (u : Nat) (h : ¬ u < 10) : Lib.decDigits u = Lib.decDigits (u / 10) ++ [UInt8.ofNat (48 + u % 10)] := by rw [Lib.decDigits, dif_neg h]
theorem dd_ne (u : Nat) : Lib.decDigits u ≠ [] := by
 by_cases h : u < 10
 ·rw [dd_small u h]; simp
 ·rw [dd_great u h]; simp
theorem dd_val : ∀ n u, u <= n -> val 10 (Lib.decDigits u) = some u /\ ∀ c ∈ Lib.decDigits u, 48 <= c.toNat /\ c.toNat <= 57 := by
 intro n
 induction n with
 | zero =>
  intro u h
  obtain rfl : u = 0 := by omega
  rw [dd_small 0 (by omega)]
  decide
 | succ n ih =>
  intro u h
  by_cases h1 : u < 10
  ·rw [dd_small u h1]
   have hd := dig_ch u h1
   refine ⟨?_, fun c hc => ?_⟩
   ·have := val_snoc 10 [] (UInt8.ofNat (48 + u))
    simp only [List.nil_append] at this
    rw [this, val_nil, hd.1]; unfold stepV; simp [h1]
   ·rw [List.mem_singleton] at hc; rw [hc]; exact hd.2
  ·rw [dd_great u h1]
   have h10 : u % 10 < 10 := Nat.mod_lt _ (by omega)
   have hd := dig_ch (u % 10) h10
   obtain ⟨h2, h3⟩ := ih (u / 10) (by omega)
   refine ⟨?_, fun c hc => ?_⟩
   ·rw [val_snoc, h2, hd.1]; unfold stepV; simp [h10]; omega
   ·rw [List.mem_append] at hc
    rcases hc with hc | hc
    ·exact h3 c hc
    ·rw [List.mem_singleton] at hc; rw [hc]; exact hd.2
theorem num_dd (x : Nat) : numI (Lib.decDigits x) = some (x : Int) := by
 obtain ⟨hv, hc⟩ := dd_val x x (Nat.le_refl _)
 have hne := dd_ne x
 cases hl : Lib.decDigits x with
 | nil => exact absurd hl hne
 | cons c t =>
  rw [hl] at hv hc
  have h1 := hc c (by simp)
  have hq : quo (c :: t) = false := by
   unfold quo
   split
   ·rename_i a b d e
    have ha : c = a := by
     simp only [List.cons.injEq] at e
     exact e.1
    rw [<- ha]
    have : ¬ c.toNat = 39 := by omega
    simp [this]
   ·rfl
  unfold numI
  rw [hq]
  simp only [Bool.false_eq_true, if_false]
  rw [if_neg (by omega), if_neg (by omega), if_neg (by omega)]
  unfold T.body
  rw [if_neg (by simp), hv]
  rfl
theorem dcm_list (v : Int) (h : 0 <= v /\ v <= 65535) : (dcm v).data.toList = Lib.decDigits v.toNat := by
 have e : wrap64 v = v := by unfold wrap64; omega
 unfold dcm Lib.itoa
 rw [e, if_neg (by omega)]
theorem dcm_num (v : Int) (h : 0 <= v /\ v <= 65535) : numC (dcm v).data.toList = v /\ numE (dcm v).data.toList = 0 := by
 have hn := num_dd v.toNat
 rw [dcm_list v h]
 unfold numC numE T.cellOf T.errOf
 rw [hn]
 have hx : ((v.toNat : Nat) : Int) = v := by omega
 simp only [hx]
 rw [if_pos (by omega), if_pos (by omega)]
 exact ⟨by omega, rfl⟩
end M
namespace M
open Go.Proofs.YtdnklgceghllaaaGreatDoor.K (Tk kd)
open Go.Proofs.YtdnklgceghllaaaGreatDoor.Y (Nd Df Ps Bk e0)
open Go.Proofs.YtdnklgceghllaaaGreatDoor.D (Rd Er Re next must add put begin_ close turnElse turnWhile leave finish ctl isW lit prm cll ext setK setHas standIn node bodyN known PM)
open Go.Proofs.YtdnklgceghllaaaGreatDoor.R (ck cks own1 fits inn isNm lk)
set_option maxRecDepth 100000
def WfT (t : Tk) : Prop := t.k = kd t.t.data.toList /\ t.v = T.numC t.t.data.toList
def vn : Nd -> Bool
 | ⟨k, _, v, _, th, el, _, _⟩ => (k != 2 || (decide (0 <= v) && decide (v <= 65535))) && ((th.map vn).all id && (el.map vn).all id)
def vns (l : List Nd) : Bool := (l.map vn).all id
theorem vn_is (n : Nd) : vn n = ((n.k != 2 || (decide (0 <= n.v) && decide (n.v <= 65535))) && (vns n.th && vns n.el)) := by cases n; rw [vn]; rfl
theorem vns_mem {l : List Nd} (h : vns l = true) : ∀ m ∈ l, vn m = true := fun m hm => by
 unfold vns at h
 rw [List.all_eq_true] at h
 exact h _ (List.mem_map.2 ⟨m, hm, rfl⟩)
def addL (l : List Nd) (r : Rd) : Rd := l.foldl (fun r n => add n r) r
theorem addL_cons (n : Nd) (l : List Nd) (r : Rd) : addL (n :: l) r = addL l (add n r) := rfl
theorem add_top (n t : Nd) (o : List Nd) (r : Rd) : add n { r with opn := o ++ [t] } = { r with opn := o ++ [put t n] } := by
 unfold add
 simp only [List.getLast?_concat, List.dropLast_concat]
theorem addL_th : ∀ (l : List Nd) (o : List Nd) (t : Nd) (r : Rd), (t.has || t.k == 6) = false -> addL l { r with opn := o ++ [t] } = { r with opn := o ++ [{ t with th := t.th ++ l }] }
 | [], o, t, r, _ => by cases t; simp [addL]
 | n :: l, o, t, r, h => by
  rw [addL_cons, add_top]
  have e : put t n = { t with th := t.th ++ [n] } := by unfold put; rw [if_neg (by rw [h]; decide)]
  rw [e, addL_th l o { t with th := t.th ++ [n] } r h]
  simp
theorem addL_el : ∀ (l : List Nd) (o : List Nd) (t : Nd) (r : Rd), (t.has || t.k == 6) = true -> addL l { r with opn := o ++ [t] } = { r with opn := o ++ [{ t with el := t.el ++ l }] }
 | [], o, t, r, _ => by cases t; simp [addL]
 | n :: l, o, t, r, h => by
  rw [addL_cons, add_top]
  have e : put t n = { t with el := t.el ++ [n] } := by unfold put; rw [if_pos h]
  rw [e, addL_el l o { t with el := t.el ++ [n] } r h]
  simp
structure St (r : Rd) (i : Nat × Bool) (names : List ByteArray) : Prop where
 nend : r.ended = false
 dep : r.opn.length = i.1
 ind : (r.opn.any fun n => n.k == 8) = i.2
 nms : r.defs.map (·.nm) = names
theorem St.move {r : Rd} {i : Nat × Bool} {names : List ByteArray} (h : St r i names) (ts : List Tk) (a : Tk) : St { r with rest := ts, at_ := a } i names := ⟨h.nend, h.dep, h.ind, h.nms⟩
theorem put_k (t n : Nd) : (put t n).k = t.k := by unfold put; split <;> rfl
theorem St.add {r : Rd} {i : Nat × Bool} {names : List ByteArray} (h : St r i names) (n : Nd) : St (add n r) i names := by
 rcases List.eq_nil_or_concat r.opn with e | ⟨o, t, e⟩
 ·have : D.add n r = { r with body := r.body ++ [n] } := by unfold D.add; rw [e]; rfl
  rw [this]
  exact ⟨h.nend, h.dep, h.ind, h.nms⟩
 ·have e' : r.opn = o ++ [t] := by rw [e, List.concat_eq_append]
  have : r = { r with opn := o ++ [t] } := by rw [<- e']
  have h1 := h.dep
  have h2 := h.ind
  rw [e'] at h1 h2
  rw [this, add_top]
  refine ⟨h.nend, ?_, ?_, h.nms⟩
  ·simpa using h1
  ·simpa [put_k] using h2
theorem body_step (e : Ps) (m : Nat) (r r1 : Rd) (t : Tk) (ts : List Tk) (hr : r.rest = t :: ts) (he : r.ended = false) (h : node (lk PM) { r with at_ := t, rest := ts } = .ok r1) : bodyN (lk PM) e (m + 1) r = bodyN (lk PM) e m r1 := by
 rw [bodyN, if_neg (by rw [he]; decide)]
 have hn : next e r = .ok { r with at_ := t, rest := ts } := by unfold next; rw [hr]
 rw [hn]
 show (node (lk PM) { r with at_ := t, rest := ts } >>= _) = _
 rw [h]
 rfl
theorem node_lit (r : Rd) (h : r.at_.k = 2) : node (lk PM) r = .ok (add (lit r.at_.v r.at_.p) r) := by
 unfold node
 rw [if_pos (by rw [h]; rfl)]
theorem node_ctl (r : Rd) (f : Rd -> Re) (h : ¬ r.at_.k = 2) (hc : ctl r.at_.t = some f) : node (lk PM) r = f r := by
 unfold node
 rw [if_neg (by simpa using h), hc]
theorem node_call (r : Rd) (h : ¬ r.at_.k = 2) (hc : ctl r.at_.t = none) (hk : known r r.at_.t = true) : node (lk PM) r = .ok (add (cll r.at_.t r.at_.p) r) := by
 unfold node
 rw [if_neg (by simpa using h), hc]
 simp only
 rw [if_pos hk]
theorem node_prim (r : Rd) (op : Int) (h : ¬ r.at_.k = 2) (hc : ctl r.at_.t = none) (hk : known r r.at_.t = false) (hp : lk PM r.at_.t = some op) : node (lk PM) r = .ok (add (prm op r.at_.p) r) := by
 unfold node
 rw [if_neg (by simpa using h), hc]
 simp only
 rw [if_neg (by rw [hk]; decide), hp]
theorem nm_plain {s : ByteArray} (h : isNm s = true) : kd s.data.toList = 1 /\ ctl s = none /\ rsF s = false := by
 rw [im_is] at h
 unfold imF at h
 rw [Bool.and_eq_true] at h
 obtain ⟨h1, h2⟩ := h
 have hr : rsF s = false := by simpa using h2
 refine ⟨?_, ?_, hr⟩
 ·unfold T.nameB at h1
  simp only [Bool.and_eq_true, decide_eq_true_eq] at h1
  have hn := h1.2.2.2.2.2
  have : T.numE s.data.toList = 20 := by unfold T.numE T.errOf; rw [hn]
  unfold kd
  rw [this]; rfl
 ·unfold rsF at hr
  rw [Bool.or_eq_false_iff] at hr
  have hq : ∀ l ∈ R.resL, isW s l = false := fun l hl => by
   have := List.any_eq_false.1 hr.1 l hl
   unfold isW
   simpa using this
  unfold ctl
  rw [hq _ (by decide), hq _ (by decide), hq _ (by decide), hq _ (by decide), hq _ (by decide), hq _ (by decide), hq _ (by decide), hq _ (by decide), hq _ (by decide), hq _ (by decide), hq _ (by decide), hq _ (by decide)]
  rfl
theorem prim_all : (List.range' 9 55).all (fun x => decide (kd (P.nm x).data.toList = 1) && ((ctl (P.nm x)).isNone && (rsF (P.nm x) && decide (lkF PL (P.nm x) = some (x : Int))))) = true := by kernel_rfl
theorem prim_word (x : Nat) (h1 : 9 <= x) (h2 : x <= 63) : kd (P.nm x).data.toList = 1 /\ ctl (P.nm x) = none /\ rsF (P.nm x) = true /\ lk PM (P.nm x) = some (x : Int) := by
 have := List.all_eq_true.1 prim_all x (List.mem_range'_1.2 (by omega))
 simp only [Bool.and_eq_true, decide_eq_true_eq] at this
 obtain ⟨a, b, c, d⟩ := this
 exact ⟨a, by simpa using b, c, by rw [lk_is]; exact d⟩
theorem known_of {r : Rd} {i : Nat × Bool} {names : List ByteArray} (h : St r i names) (s : ByteArray) : known r s = names.any fun x => decide (x = s) := by unfold known; rw [h.nms]
theorem known_prim {names : List ByteArray} (hN : ∀ s ∈ names, isNm s = true) {s : ByteArray} (hs : rsF s = true) : (names.any fun x => decide (x = s)) = false := by
 rw [List.any_eq_false]
 intro x hx
 simp only [decide_eq_true_eq]
 rintro rfl
 rw [(nm_plain (hN _ hx)).2.2] at hs
 cases hs
theorem nm_empty {s : ByteArray} (h : s.toList.isEmpty = true) : s = e0 := by
 rw [ByteArray.toList_eq, List.isEmpty_iff] at h
 exact list_inj (h.trans rfl)
theorem sml_nil_l {l : List Nd} (h : l.isEmpty = true) : l = [] := List.isEmpty_iff.1 h
theorem uses_is {n : Nd} (h : R.uses n = true) : 1 <= n.k /\ n.k <= 9 /\ (n.k = 1 \/ n.op = 0) /\ (n.k = 2 \/ n.v = 0) /\ (n.k = 3 \/ n.nm = e0) /\ (R.strc n.k = true \/ n.th = []) /\ (n.k = 6 \/ (n.k = 4 /\ n.has = true) \/ n.el = []) /\ (n.k = 4 \/ n.has = false) := by
 unfold R.uses R.usesF at h
 simp only [Bool.and_eq_true, Bool.or_eq_true, decide_eq_true_eq, beq_iff_eq, Bool.not_eq_true', Bool.not_eq_eq_eq_not, Bool.not_true] at h
 obtain ⟨a, b, c, d, f, g, i, j⟩ := h
 refine ⟨a, b, c, d, f.imp id nm_empty, g.imp id sml_nil_l, ?_, j⟩
 rcases i with (i | i) | i
 ·exact .inl i
 ·exact .inr (.inl i)
 ·exact .inr (.inr (sml_nil_l i))
end M
namespace M
open Go.Proofs.YtdnklgceghllaaaGreatDoor.K (Tk kd)
open Go.Proofs.YtdnklgceghllaaaGreatDoor.Y (Nd Df Ps Bk e0)
open Go.Proofs.YtdnklgceghllaaaGreatDoor.D (Rd Er Re next must add put begin_ close turnElse turnWhile leave finish ctl isW lit prm cll ext setK setHas standIn node bodyN known PM)
open Go.Proofs.YtdnklgceghllaaaGreatDoor.R (ck cks own1 fits inn isNm lk)
set_option maxRecDepth 100000
theorem add_rest (n : Nd) (r : Rd) : (D.add n r).rest = r.rest := by unfold D.add; split <;> rfl
theorem add_move (n : Nd) (r : Rd) (ts : List Tk) (a : Tk) : { D.add n r with rest := ts, at_ := a } = D.add n { r with rest := ts, at_ := a } := by
 unfold D.add
 simp only
 split <;> rfl
def CN (n : Nd) : Prop := ∀ (names : List ByteArray) (i : Nat × Bool), (∀ s ∈ names, isNm s = true) -> ck names n i = 0 -> vn n = true -> i.1 <= 32 -> ∀ (e : Ps) (ts1 : List Tk), (∀ t ∈ ts1, WfT t) -> ts1.map (·.t) = nw n -> ∀ (r : Rd) (ts2 : List Tk), r.rest = ts1 ++ ts2 -> St r i names ->
 ∃ n' a, sm n n' = true /\ ∀ m, bodyN (lk PM) e (m + ts1.length) r = bodyN (lk PM) e m (add n' { r with rest := ts2, at_ := a })
def CLs (l : List Nd) : Prop := ∀ (names : List ByteArray) (i : Nat × Bool), (∀ s ∈ names, isNm s = true) -> cks names l i = 0 -> vns l = true -> i.1 <= 32 -> ∀ (e : Ps) (ts1 : List Tk), (∀ t ∈ ts1, WfT t) -> ts1.map (·.t) = nws l -> ∀ (r : Rd) (ts2 : List Tk), r.rest = ts1 ++ ts2 -> St r i names ->
 ∃ l' a, sml l l' = true /\ ∀ m, bodyN (lk PM) e (m + ts1.length) r = bodyN (lk PM) e m (addL l' { r with rest := ts2, at_ := a })
theorem cls_of : ∀ (l : List Nd), (∀ m ∈ l, CN m) -> CLs l
 | [], _ => fun names i hN hc hv hi e ts1 hw hm r ts2 hr hs => by
  have : ts1 = [] := by simpa [nws_nil] using hm
  subst this
  refine ⟨[], r.at_, rfl, fun m => ?_⟩
  have : ({ r with rest := ts2, at_ := r.at_ } : Rd) = r := by
   rw [List.nil_append] at hr
   rw [<- hr]
  show bodyN _ _ m r = bodyN _ _ m { r with rest := ts2, at_ := r.at_ }
  rw [this]
 | n :: l, h => fun names i hN hc hv hi e ts1 hw hm r ts2 hr hs => by
  rw [nws_cons] at hm
  obtain ⟨ta, tb, rfl, ha, hb⟩ := List.map_eq_append_iff.1 hm
  have hcn := cks_mem hc n (by simp)
  rw [R.cks_cons, if_pos hcn] at hc
  have hvn := vns_mem hv n (by simp)
  have hvl : vns l = true := by
   unfold vns at hv ⊢
   rw [List.map_cons, List.all_cons, Bool.and_eq_true] at hv
   exact hv.2
  obtain ⟨n', a, s1, b1⟩ := h n (by simp) names i hN hcn hvn hi e ta (fun t ht => hw t (by simp [ht])) ha r (tb ++ ts2) (by rw [hr, List.append_assoc]) hs
  obtain ⟨l', a2, s2, b2⟩ := cls_of l (fun m hm => h m (by simp [hm])) names i hN hc hvl hi e tb (fun t ht => hw t (by simp [ht])) hb (add n' { r with rest := tb ++ ts2, at_ := a }) ts2 (add_rest _ _) ((hs.move _ _).add n')
  refine ⟨n' :: l', a2, by rw [sml_cc, s1, s2]; rfl, fun m => ?_⟩
  rw [List.length_append, show m + (ta.length + tb.length) = m + tb.length + ta.length by omega, b1, b2, addL_cons, add_move]
theorem tok1 {ts : List Tk} {w : ByteArray} (h : ts.map (·.t) = [w]) : ∃ t, ts = [t] /\ t.t = w := by
 match ts, h with
 | [t], h => exact ⟨t, rfl, by simpa using h⟩
theorem tok3 {ts : List Tk} {a c : ByteArray} {B : List ByteArray} (h : ts.map (·.t) = [a] ++ B ++ [c]) : ∃ t0 tb t9, ts = t0 :: (tb ++ [t9]) /\ t0.t = a /\ tb.map (·.t) = B /\ t9.t = c := by
 obtain ⟨x, y, rfl, hx, hy⟩ := List.map_eq_append_iff.1 h
 obtain ⟨x1, x2, rfl, h1, h2⟩ := List.map_eq_append_iff.1 hx
 obtain ⟨t0, rfl, e0⟩ := tok1 h1
 obtain ⟨t9, rfl, e9⟩ := tok1 hy
 exact ⟨t0, x2, t9, by simp, e0, h2, e9⟩
theorem tok5 {ts : List Tk} {a c f : ByteArray} {B C : List ByteArray} (h : ts.map (·.t) = [a] ++ B ++ [c] ++ C ++ [f]) : ∃ t0 tb t5 tc t9, ts = t0 :: (tb ++ (t5 :: (tc ++ [t9]))) /\ t0.t = a /\ tb.map (·.t) = B /\ t5.t = c /\ tc.map (·.t) = C /\ t9.t = f := by
 obtain ⟨x, y, rfl, hx, hy⟩ := List.map_eq_append_iff.1 h
 obtain ⟨x1, x2, rfl, h1, h2⟩ := List.map_eq_append_iff.1 hx
 obtain ⟨t0, tb, t5, rfl, e0, eb, e5⟩ := tok3 h1
 obtain ⟨t9, rfl, e9⟩ := tok1 hy
 exact ⟨t0, tb, t5, x2, t9, by simp, e0, eb, e5, h2, e9⟩
theorem not2 {t : Tk} (h : WfT t) {w : ByteArray} (e : t.t = w) (hk : kd w.data.toList = 1) : ¬ t.k = 2 := by rw [h.1, e, hk]; decide
theorem open_step (e : Ps) (r : Rd) (t : Tk) (ts : List Tk) (i : Nat × Bool) (names : List ByteArray) (hr : r.rest = t :: ts) (hs : St r i names) (hi : i.1 < 32) (hw : WfT t) (w : ByteArray) (k : Int) (hk : kd w.data.toList = 1) (hc : ctl w = some (begin_ k)) (ht : t.t = w) (m : Nat) :
  bodyN (lk PM) e (m + 1) r = bodyN (lk PM) e m { r with rest := ts, at_ := t, opn := r.opn ++ [⟨k, 0, 0, e0, [], [], false, t.p⟩] } := by
 refine body_step e m r _ t ts hr hs.nend ?_
 rw [node_ctl _ (begin_ k) (not2 hw ht hk) (by show ctl t.t = _; rw [ht, hc])]
 unfold begin_ must
 simp only
 rw [if_pos (by rw [decide_eq_true_eq, hs.dep]; exact hi)]
 rfl
theorem close_step (e : Ps) (r : Rd) (t : Tk) (ts : List Tk) (hr : r.rest = t :: ts) (he : r.ended = false) (o : List Nd) (x : Nd) (ho : r.opn = o ++ [x]) (hw : WfT t) (w : ByteArray) (k b : Int) (hx : x.k = k) (hk : kd w.data.toList = 1) (hc : ctl w = some (close k b)) (ht : t.t = w) (m : Nat) :
  bodyN (lk PM) e (m + 1) r = bodyN (lk PM) e m (add (setK x b) { r with rest := ts, at_ := t, opn := o }) := by
 refine body_step e m r _ t ts hr he ?_
 rw [node_ctl _ (close k b) (not2 hw ht hk) (by show ctl t.t = _; rw [ht, hc])]
 unfold close must standIn
 simp only [ho, List.getLast?_concat, hx, beq_self_eq_true, if_true, List.dropLast_concat]
 rfl
theorem turn_step (e : Ps) (r : Rd) (t : Tk) (ts : List Tk) (hr : r.rest = t :: ts) (he : r.ended = false) (o : List Nd) (x y : Nd) (ho : r.opn = o ++ [x]) (hw : WfT t) (w : ByteArray) (f : Rd -> Re) (hk : kd w.data.toList = 1) (hc : ctl w = some f) (ht : t.t = w) (hf : ∀ r' : Rd, r'.opn = o ++ [x] -> f r' = .ok { r' with opn := o ++ [y] }) (m : Nat) :
  bodyN (lk PM) e (m + 1) r = bodyN (lk PM) e m { r with rest := ts, at_ := t, opn := o ++ [y] } := by
 refine body_step e m r _ t ts hr he ?_
 rw [node_ctl _ f (not2 hw ht hk) (by show ctl t.t = _; rw [ht, hc])]
 exact hf _ ho
theorem st_push {r : Rd} {i : Nat × Bool} {names : List ByteArray} (hs : St r i names) (n : Nd) (ts : List Tk) (t : Tk) (x : Nd) (hx : (x.k == 8) = (n.k == 8)) : St { r with rest := ts, at_ := t, opn := r.opn ++ [x] } (inn n i) names := by
 refine ⟨hs.nend, ?_, ?_, hs.nms⟩
 ·show (r.opn ++ [x]).length = i.1 + 1
  rw [List.length_append, hs.dep]; rfl
 ·show ((r.opn ++ [x]).any _) = (i.2 || n.k == 8)
  rw [List.any_append, hs.ind, List.any_cons, List.any_nil, Bool.or_false, hx]
theorem one_list (n : Nd) (kw0 kw9 : ByteArray) (k0 k9 : Int) (h0 : kd kw0.data.toList = 1) (c0 : ctl kw0 = some (begin_ k0)) (h9 : kd kw9.data.toList = 1) (c9 : ctl kw9 = some (close k0 k9)) (h8 : (k0 == 8) = (n.k == 8)) (h6 : (k0 == 6) = false) (hl : CLs n.th)
  (names : List ByteArray) (i : Nat × Bool) (hN : ∀ s ∈ names, isNm s = true) (hc : cks names n.th (inn n i) = 0) (hv : vns n.th = true) (hi : i.1 < 32) (e : Ps) (ts1 : List Tk) (hw : ∀ t ∈ ts1, WfT t) (hm : ts1.map (·.t) = [kw0] ++ nws n.th ++ [kw9]) (r : Rd) (ts2 : List Tk) (hr : r.rest = ts1 ++ ts2) (hs : St r i names) :
  ∃ l' a p, sml n.th l' = true /\ ∀ m, bodyN (lk PM) e (m + ts1.length) r = bodyN (lk PM) e m (add ⟨k9, 0, 0, e0, l', [], false, p⟩ { r with rest := ts2, at_ := a }) := by
 obtain ⟨t0, tb, t9, rfl, w0, wb, w9⟩ := tok3 hm
 have hr' : r.rest = t0 :: (tb ++ (t9 :: ts2)) := by rw [hr]; simp
 obtain ⟨l', a, s1, b1⟩ := hl names (inn n i) hN hc hv (by show i.1 + 1 <= 32; omega) e tb (fun t ht => hw t (by simp [ht])) wb { r with rest := tb ++ (t9 :: ts2), at_ := t0, opn := r.opn ++ [⟨k0, 0, 0, e0, [], [], false, t0.p⟩] } (t9 :: ts2) rfl (st_push hs n _ t0 _ h8)
 refine ⟨l', t9, t0.p, s1, fun m => ?_⟩
 have hlen : m + (t0 :: (tb ++ [t9])).length = m + 1 + tb.length + 1 := by simp only [List.length_cons, List.length_append, List.length_nil]; omega
 rw [hlen, open_step e r t0 _ i names hr' hs hi (hw t0 (by simp)) kw0 k0 h0 c0 w0, b1]
 have ht := addL_th l' r.opn ⟨k0, 0, 0, e0, [], [], false, t0.p⟩ { r with rest := t9 :: ts2, at_ := a } (by simpa using h6)
 simp only at ht
 rw [ht]
 exact close_step e { r with rest := t9 :: ts2, at_ := a, opn := r.opn ++ [⟨k0, 0, 0, e0, [] ++ l', [], false, t0.p⟩] } t9 ts2 (by rfl) (by exact hs.nend) r.opn ⟨k0, 0, 0, e0, [] ++ l', [], false, t0.p⟩ (by rfl) (hw t9 (by simp)) kw9 k0 k9 rfl h9 c9 w9 m
theorem two_list (n : Nd) (kw0 kw5 kw9 : ByteArray) (k0 k2 k9 : Int) (hs2 : Bool) (f : Rd -> Re) (h0 : kd kw0.data.toList = 1) (c0 : ctl kw0 = some (begin_ k0)) (h5 : kd kw5.data.toList = 1) (c5 : ctl kw5 = some f) (h9 : kd kw9.data.toList = 1) (c9 : ctl kw9 = some (close k2 k9)) (h8 : (k0 == 8) = (n.k == 8)) (h82 : (k2 == 8) = (n.k == 8)) (h6 : (k0 == 6) = false) (h62 : (hs2 || k2 == 6) = true)
  (hf : ∀ (o : List Nd) (l : List Nd) (p : Ps) (r' : Rd), r'.opn = o ++ [⟨k0, 0, 0, e0, l, [], false, p⟩] -> f r' = .ok { r' with opn := o ++ [⟨k2, 0, 0, e0, l, [], hs2, p⟩] }) (hl : CLs n.th) (hl2 : CLs n.el)
  (names : List ByteArray) (i : Nat × Bool) (hN : ∀ s ∈ names, isNm s = true) (hc : cks names n.th (inn n i) = 0) (hc2 : cks names n.el (inn n i) = 0) (hv : vns n.th = true) (hv2 : vns n.el = true) (hi : i.1 < 32) (e : Ps) (ts1 : List Tk) (hw : ∀ t ∈ ts1, WfT t) (hm : ts1.map (·.t) = [kw0] ++ nws n.th ++ [kw5] ++ nws n.el ++ [kw9]) (r : Rd) (ts2 : List Tk) (hr : r.rest = ts1 ++ ts2) (hs : St r i names) :
  ∃ l' l2' a p, sml n.th l' = true /\ sml n.el l2' = true /\ ∀ m, bodyN (lk PM) e (m + ts1.length) r = bodyN (lk PM) e m (add ⟨k9, 0, 0, e0, l', l2', hs2, p⟩ { r with rest := ts2, at_ := a }) := by
 obtain ⟨t0, tb, t5, tc, t9, rfl, w0, wb, w5, wc, w9⟩ := tok5 hm
 have hr' : r.rest = t0 :: (tb ++ (t5 :: (tc ++ (t9 :: ts2)))) := by rw [hr]; simp
 obtain ⟨l', a, s1, b1⟩ := hl names (inn n i) hN hc hv (by show i.1 + 1 <= 32; omega) e tb (fun t ht => hw t (by simp [ht])) wb { r with rest := tb ++ (t5 :: (tc ++ (t9 :: ts2))), at_ := t0, opn := r.opn ++ [⟨k0, 0, 0, e0, [], [], false, t0.p⟩] } (t5 :: (tc ++ (t9 :: ts2))) rfl (st_push hs n _ t0 _ h8)
 obtain ⟨l2', a2, s2, b2⟩ := hl2 names (inn n i) hN hc2 hv2 (by show i.1 + 1 <= 32; omega) e tc (fun t ht => hw t (by simp [ht])) wc { r with rest := tc ++ (t9 :: ts2), at_ := t5, opn := r.opn ++ [⟨k2, 0, 0, e0, [] ++ l', [], hs2, t0.p⟩] } (t9 :: ts2) rfl (st_push hs n _ t5 _ h82)
 refine ⟨l', l2', t9, t0.p, s1, s2, fun m => ?_⟩
 have hlen : m + (t0 :: (tb ++ (t5 :: (tc ++ [t9])))).length = m + 1 + tc.length + 1 + tb.length + 1 := by simp only [List.length_cons, List.length_append, List.length_nil]; omega
 rw [hlen, open_step e r t0 _ i names hr' hs hi (hw t0 (by simp)) kw0 k0 h0 c0 w0, b1]
 have ht := addL_th l' r.opn ⟨k0, 0, 0, e0, [], [], false, t0.p⟩ { r with rest := t5 :: (tc ++ (t9 :: ts2)), at_ := a } (by simpa using h6)
 simp only at ht
 rw [ht]
 refine (turn_step e { r with rest := t5 :: (tc ++ (t9 :: ts2)), at_ := a, opn := r.opn ++ [⟨k0, 0, 0, e0, [] ++ l', [], false, t0.p⟩] } t5 _ (by rfl) (by exact hs.nend) r.opn ⟨k0, 0, 0, e0, [] ++ l', [], false, t0.p⟩ ⟨k2, 0, 0, e0, [] ++ l', [], hs2, t0.p⟩ (by rfl) (hw t5 (by simp)) kw5 f h5 c5 w5 (fun r' hr' => hf r.opn _ _ r' hr') _).trans ?_
 refine (b2 _).trans ?_
 have ht2 := addL_el l2' r.opn ⟨k2, 0, 0, e0, [] ++ l', [], hs2, t0.p⟩ { r with rest := t9 :: ts2, at_ := a2 } h62
 simp only at ht2
 rw [ht2]
 exact close_step e { r with rest := t9 :: ts2, at_ := a2, opn := r.opn ++ [⟨k2, 0, 0, e0, [] ++ l', [] ++ l2', hs2, t0.p⟩] } t9 ts2 (by rfl) (by exact hs.nend) r.opn ⟨k2, 0, 0, e0, [] ++ l', [] ++ l2', hs2, t0.p⟩ (by rfl) (hw t9 (by simp)) kw9 k2 k9 rfl h9 c9 w9 m
end M
namespace M
open Go.Proofs.YtdnklgceghllaaaGreatDoor.K (Tk kd)
open Go.Proofs.YtdnklgceghllaaaGreatDoor.Y (Nd Df Ps Bk e0)
open Go.Proofs.YtdnklgceghllaaaGreatDoor.D (Rd Er Re next must add put begin_ close turnElse turnWhile leave finish ctl isW lit prm cll ext setK setHas standIn node bodyN known PM)
open Go.Proofs.YtdnklgceghllaaaGreatDoor.R (ck cks own1 fits inn isNm lk dfE dsE bkE chk)
set_option maxRecDepth 100000
theorem dcm_kd (v : Int) (h : 0 <= v /\ v <= 65535) : kd (dcm v).data.toList = 2 := by
 unfold kd
 rw [(dcm_num v h).2]; rfl
theorem cn_any (n : Nd) : CN n := by
 refine Y.Nd.ind (P := CN) ?_ n
 intro n h1 h2 names i hN hc hv hi e ts1 hw hm r ts2 hr hs
 have hL1 := cls_of n.th h1
 have hL2 := cls_of n.el h2
 obtain ⟨ho, ht, he⟩ := ck_own hc
 obtain ⟨hu, hf, hex, hdp⟩ := own_is ho
 obtain ⟨k1, k9, uo, uv, un, ut, ue, uh⟩ := uses_is hu
 rw [vn_is, Bool.and_eq_true, Bool.and_eq_true] at hv
 obtain ⟨hv0, hv1, hv2⟩ := hv
 rw [nw_is] at hm
 unfold nwf at hm
 have hlt : R.strc n.k = true -> i.1 < 32 := fun hk => by
  have : ¬ i.1 = 32 := fun c => hdp ⟨hk, c⟩
  omega
 have hpr := fits_pr (names := names) (n := n) hf
 have hnn := fits_nm (names := names) (n := n) hf
 obtain ⟨k, op, v, nm, th, el, has, p⟩ := n
 simp only at *
 by_cases e1 : k = 1
 ·subst e1
  rw [if_pos rfl] at hm
  obtain ⟨t, rfl, wt⟩ := tok1 hm
  obtain ⟨o9, o63⟩ := hpr rfl
  obtain rfl : v = 0 := by omega
  obtain rfl : nm = e0 := un.resolve_left (by omega)
  obtain rfl : th = [] := ut.resolve_left (by decide)
  obtain rfl : el = [] := (ue.resolve_left (by omega)).resolve_left (by omega)
  obtain rfl : has = false := uh.resolve_left (by omega)
  obtain ⟨x, rfl⟩ : ∃ x : Nat, op = (x : Int) := ⟨op.toNat, by omega⟩
  have hp : pn (x : Int) = P.nm x := by unfold pn; rw [if_neg (by omega)]; rfl
  rw [hp] at wt
  obtain ⟨q1, q2, q3, q4⟩ := prim_word x (by omega) (by omega)
  refine ⟨prm (x : Int) t.p, t, by rw [prm, sm_mk]; simp [sml_nn], fun m => ?_⟩
  refine body_step e m r _ t ts2 (by rw [hr]; rfl) hs.nend ?_
  exact node_prim { r with rest := ts2, at_ := t } (x : Int) (not2 (hw t (by simp)) wt q1) (by show ctl t.t = _; rw [wt]; exact q2) (by rw [known_of (hs.move ts2 t)]; show (names.any fun y => decide (y = t.t)) = false; rw [wt]; exact known_prim hN q3) (by show lk PM t.t = _; rw [wt]; exact q4)
 rw [if_neg e1] at hm
 by_cases e2 : k = 2
 ·subst e2
  rw [if_pos rfl] at hm
  obtain ⟨t, rfl, wt⟩ := tok1 hm
  have hr16 : 0 <= v /\ v <= 65535 := by simpa using hv0
  obtain rfl : op = 0 := by omega
  obtain rfl : nm = e0 := un.resolve_left (by omega)
  obtain rfl : th = [] := ut.resolve_left (by decide)
  obtain rfl : el = [] := (ue.resolve_left (by omega)).resolve_left (by omega)
  obtain rfl : has = false := uh.resolve_left (by omega)
  have hwt := hw t (by simp)
  have hk2 : t.k = 2 := by rw [hwt.1, wt]; exact dcm_kd v hr16
  have hvv : t.v = v := by rw [hwt.2, wt]; exact (dcm_num v hr16).1
  refine ⟨lit v t.p, t, by rw [lit, sm_mk]; simp [sml_nn], fun m => ?_⟩
  refine body_step e m r _ t ts2 (by rw [hr]; rfl) hs.nend ?_
  rw [node_lit { r with rest := ts2, at_ := t } hk2]
  show Except.ok (add (lit t.v t.p) _) = _
  rw [hvv]
 rw [if_neg e2] at hm
 by_cases e3 : k = 3
 ·subst e3
  rw [if_pos rfl] at hm
  obtain ⟨t, rfl, wt⟩ := tok1 hm
  obtain rfl : op = 0 := by omega
  obtain rfl : v = 0 := by omega
  obtain rfl : th = [] := ut.resolve_left (by decide)
  obtain rfl : el = [] := (ue.resolve_left (by omega)).resolve_left (by omega)
  obtain rfl : has = false := uh.resolve_left (by omega)
  have hmem := hnn rfl
  obtain ⟨q1, q2, q3⟩ := nm_plain (hN _ hmem)
  refine ⟨cll nm t.p, t, by rw [cll, sm_mk]; simp [sml_nn], fun m => ?_⟩
  refine body_step e m r _ t ts2 (by rw [hr]; rfl) hs.nend ?_
  rw [node_call { r with rest := ts2, at_ := t } (not2 (hw t (by simp)) wt q1) (by show ctl t.t = _; rw [wt]; exact q2) (by rw [known_of (hs.move ts2 t)]; show (names.any fun y => decide (y = t.t)) = true; rw [wt, List.any_eq_true]; exact ⟨nm, hmem, by simp⟩)]
  show Except.ok (add (cll t.t t.p) _) = _
  rw [wt]
 rw [if_neg e3] at hm
 by_cases e9 : k = 9
 ·subst e9
  rw [if_pos rfl] at hm
  obtain ⟨t, rfl, wt⟩ := tok1 hm
  obtain rfl : op = 0 := by omega
  obtain rfl : v = 0 := by omega
  obtain rfl : nm = e0 := un.resolve_left (by omega)
  obtain rfl : th = [] := ut.resolve_left (by decide)
  obtain rfl : el = [] := (ue.resolve_left (by omega)).resolve_left (by omega)
  obtain rfl : has = false := uh.resolve_left (by omega)
  have hi2 : i.2 = false := by
   cases h : i.2 with
   | false => rfl
   | true => exact absurd ⟨rfl, h⟩ hex
  refine ⟨ext t.p, t, by rw [ext, sm_mk]; simp [sml_nn], fun m => ?_⟩
  refine body_step e m r _ t ts2 (by rw [hr]; rfl) hs.nend ?_
  rw [node_ctl { r with rest := ts2, at_ := t } leave (not2 (hw t (by simp)) wt (by kernel_rfl)) (by show ctl t.t = _; rw [wt]; rfl)]
  unfold leave must
  simp only
  rw [if_pos (by rw [hs.ind, hi2]; rfl)]
  rfl
 rw [if_neg e9] at hm
 by_cases e4 : k = 4
 ·subst e4
  rw [if_pos rfl] at hm
  obtain rfl : op = 0 := by omega
  obtain rfl : v = 0 := by omega
  obtain rfl : nm = e0 := un.resolve_left (by omega)
  cases has with
  | false =>
   rw [if_neg (by decide)] at hm
   obtain rfl : el = [] := (ue.resolve_left (by omega)).resolve_left (fun c => by simp at c)
   obtain ⟨l', a, q, s1, b1⟩ := one_list ⟨4, 0, 0, e0, th, [], false, p⟩ wIf wThen 4 4 (by kernel_rfl) rfl (by kernel_rfl) rfl rfl rfl hL1 names i hN ht hv1 (hlt rfl) e ts1 hw hm r ts2 hr hs
   exact ⟨_, a, by rw [sm_mk, s1]; simp [sml_nn], b1⟩
  | true =>
   rw [if_pos rfl] at hm
   obtain ⟨l', l2', a, q, s1, s2, b1⟩ := two_list ⟨4, 0, 0, e0, th, el, true, p⟩ wIf wElse wThen 4 4 4 true turnElse (by kernel_rfl) rfl (by kernel_rfl) rfl (by kernel_rfl) rfl rfl rfl rfl rfl (fun o l q r' h' => by
    unfold turnElse must standIn
    simp only [h', List.getLast?_concat, List.dropLast_concat]
    rfl) hL1 hL2 names i hN ht he hv1 hv2 (hlt rfl) e ts1 hw hm r ts2 hr hs
   exact ⟨_, a, by rw [sm_mk, s1, s2]; simp, b1⟩
 rw [if_neg e4] at hm
 obtain rfl : has = false := uh.resolve_left e4
 obtain rfl : op = 0 := uo.resolve_left e1
 obtain rfl : v = 0 := uv.resolve_left e2
 obtain rfl : nm = e0 := un.resolve_left e3
 by_cases e6 : k = 6
 ·subst e6
  rw [if_pos rfl] at hm
  obtain ⟨l', l2', a, q, s1, s2, b1⟩ := two_list ⟨6, 0, 0, e0, th, el, false, p⟩ wBegin wWhile wRepeat 0 6 6 false turnWhile (by kernel_rfl) rfl (by kernel_rfl) rfl (by kernel_rfl) rfl rfl rfl rfl rfl (fun o l q r' h' => by
   unfold turnWhile must standIn
   simp only [h', List.getLast?_concat, List.dropLast_concat]
   rfl) hL1 hL2 names i hN ht he hv1 hv2 (hlt rfl) e ts1 hw hm r ts2 hr hs
  exact ⟨_, a, by rw [sm_mk, s1, s2]; simp, b1⟩
 rw [if_neg e6] at hm
 obtain rfl : el = [] := (ue.resolve_left e6).resolve_left (fun c => e4 c.1)
 by_cases e5 : k = 5
 ·subst e5
  rw [if_pos rfl] at hm
  obtain ⟨l', a, q, s1, b1⟩ := one_list ⟨5, 0, 0, e0, th, [], false, p⟩ wBegin wUntil 0 5 (by kernel_rfl) rfl (by kernel_rfl) rfl rfl rfl hL1 names i hN ht hv1 (hlt rfl) e ts1 hw hm r ts2 hr hs
  exact ⟨_, a, by rw [sm_mk, s1]; simp [sml_nn], b1⟩
 rw [if_neg e5] at hm
 by_cases e7 : k = 7
 ·subst e7
  rw [if_pos rfl] at hm
  obtain ⟨l', a, q, s1, b1⟩ := one_list ⟨7, 0, 0, e0, th, [], false, p⟩ wBegin wAgain 0 7 (by kernel_rfl) rfl (by kernel_rfl) rfl rfl rfl hL1 names i hN ht hv1 (hlt rfl) e ts1 hw hm r ts2 hr hs
  exact ⟨_, a, by rw [sm_mk, s1]; simp [sml_nn], b1⟩
 rw [if_neg e7] at hm
 obtain rfl : k = 8 := by omega
 rw [if_pos rfl] at hm
 obtain ⟨l', a, q, s1, b1⟩ := one_list ⟨8, 0, 0, e0, th, [], false, p⟩ wDo wLoop 8 8 (by kernel_rfl) rfl (by kernel_rfl) rfl rfl rfl hL1 names i hN ht hv1 (hlt rfl) e ts1 hw hm r ts2 hr hs
 exact ⟨_, a, by rw [sm_mk, s1]; simp [sml_nn], b1⟩
theorem cls_any (l : List Nd) : CLs l := cls_of l fun m _ => cn_any m
end M
namespace M
open Go.Proofs.YtdnklgceghllaaaGreatDoor.K (Tk kd)
open Go.Proofs.YtdnklgceghllaaaGreatDoor.Y (Nd Df Ps Bk e0)
open Go.Proofs.YtdnklgceghllaaaGreatDoor.D (Rd Er Re next must add name word define item numbered dataN bank itemsN finish ctl isW bodyN known PM)
open Go.Proofs.YtdnklgceghllaaaGreatDoor.R (ck cks isNm lk dfE dsE bkE chk)
set_option maxRecDepth 100000
theorem next_ok (e : Ps) (r : Rd) (t : Tk) (ts : List Tk) (h : r.rest = t :: ts) : next e r = .ok { r with at_ := t, rest := ts } := by unfold next; rw [h]
theorem name_ok (e : Ps) (r : Rd) (t : Tk) (ts : List Tk) (h : r.rest = t :: ts) (hn : isNm t.t = true) (hk : known r t.t = false) : name e r = .ok { r with at_ := t, rest := ts } := by
 unfold name
 rw [next_ok e r t ts h]
 show (must (isNm t.t) t 101 >>= fun _ => must (!known r t.t) t 102 >>= fun _ => Except.ok { r with at_ := t, rest := ts }) = _
 rw [hn, hk]
 rfl
theorem addL_body : ∀ (l : List Nd) (r : Rd), r.opn = [] -> addL l r = { r with body := r.body ++ l }
 | [], r, _ => by simp [addL]
 | n :: l, r, h => by
  have e : add n r = { r with body := r.body ++ [n] } := by unfold add; rw [h]; rfl
  rw [addL_cons, e, addL_body l { r with body := r.body ++ [n] } h]
  simp
def vd (d : Df) : Bool := decide (0 <= d.v) && (decide (d.v <= 65535) && vns d.body)
theorem tok_app {ts : List Tk} {a b : List ByteArray} (h : ts.map (·.t) = a ++ b) : ∃ x y, ts = x ++ y /\ x.map (·.t) = a /\ y.map (·.t) = b := by
 obtain ⟨x, y, e, hx, hy⟩ := List.map_eq_append_iff.1 h
 exact ⟨x, y, e, hx, hy⟩
theorem item_def (e : Ps) (d : Df) (ns : List ByteArray) (hN : ∀ s ∈ ns, isNm s = true) (hd : dfE ns d = 0) (hv : vd d = true) (ts1 : List Tk) (hw : ∀ t ∈ ts1, WfT t) (hm : ts1.map (·.t) = dw d) (r : Rd) (ts2 : List Tk) (hr : r.rest = ts1 ++ ts2) (hns : r.defs.map (·.nm) = ns) :
  ∃ d' r1, smd d d' = true /\ d'.nm = d.nm /\ item (lk PM) e r = .ok r1 /\ r1.rest = ts2 /\ r1.defs = r.defs ++ [d'] /\ r1.banks = r.banks := by
 obtain ⟨f1, f2, f3, f4, f5⟩ := dfE_is hd
 unfold vd at hv
 simp only [Bool.and_eq_true, decide_eq_true_eq] at hv
 obtain ⟨v0, v1, v2⟩ := hv
 have hkn : ∀ (r' : Rd), r'.defs = r.defs -> known r' d.nm = false := fun r' h => by
  unfold known
  rw [h, hns]
  exact f3
 unfold dw at hm
 obtain ⟨k, nm, v, body, p⟩ := d
 simp only at *
 unfold R.fieldsF at f1
 by_cases e1 : k = 1
 ·subst e1
  simp only [if_true] at hm f1
  obtain rfl : v = 0 := by simpa using f1
  have hm' : ts1.map (·.t) = [wColon] ++ ([nm] ++ nws body ++ [wSemi]) := by rw [hm]; simp
  obtain ⟨x, y, rfl, hx, hy⟩ := tok_app hm'
  obtain ⟨t0, rfl, w0⟩ := tok1 hx
  obtain ⟨t1, tb, t9, rfl, w1, wb, w9⟩ := tok3 hy
  have hr0 : r.rest = t0 :: (t1 :: (tb ++ (t9 :: ts2))) := by rw [hr]; simp
  have hk0 : ¬ t0.k = 2 := not2 (hw t0 (by simp)) w0 (by kernel_rfl)
  obtain ⟨l', a, s1, b1⟩ := cls_any body ns (0, false) hN f5 v2 (by decide) e tb (fun t ht => hw t (by simp [ht])) wb { r with rest := tb ++ (t9 :: ts2), at_ := t1, body := [], opn := [], ended := false } (t9 :: ts2) rfl ⟨rfl, rfl, rfl, hns⟩
  refine ⟨⟨1, nm, 0, l', t1.p⟩, { r with rest := ts2, at_ := t9, body := [] ++ l', opn := [], ended := true, defs := r.defs ++ [⟨1, nm, 0, l', t1.p⟩] }, by simp [smd, s1], rfl, ?_, rfl, rfl, rfl⟩
  unfold item
  rw [next_ok e r t0 _ hr0]
  show (if (t0.k == 2) = true then _ else if isW t0.t [58] = true then _ else _) = _
  rw [if_neg (by simpa using hk0), w0, if_pos (by kernel_rfl)]
  unfold word
  rw [name_ok e _ t1 _ (by rfl) (by rw [w1]; exact f2) (by rw [w1]; exact hkn _ rfl)]
  show (bodyN (lk PM) e ((tb ++ (t9 :: ts2)).length + 1) { r with rest := tb ++ (t9 :: ts2), at_ := t1, body := [], opn := [], ended := false } >>= _) = _
  have hfu : (tb ++ (t9 :: ts2)).length + 1 = (ts2.length + 1 + 1) + tb.length := by simp only [List.length_append, List.length_cons]; omega
  rw [hfu, b1, addL_body l' _ rfl]
  have hs : bodyN (lk PM) e (ts2.length + 1 + 1) { r with rest := t9 :: ts2, at_ := a, body := [] ++ l', opn := [], ended := false } = bodyN (lk PM) e (ts2.length + 1) { r with rest := ts2, at_ := t9, body := [] ++ l', opn := [], ended := true } := by
   refine body_step e _ _ _ t9 ts2 rfl rfl ?_
   rw [node_ctl _ finish (not2 (hw t9 (by simp)) w9 (by kernel_rfl)) (by show ctl t9.t = _; rw [w9]; rfl)]
   rfl
  simp only at hs ⊢
  rw [hs, bodyN, if_pos rfl]
  show Except.ok (define 1 t1 0 ([] ++ l') _) = _
  unfold define
  rw [w1]
  rfl
 rw [if_neg e1] at hm f1
 by_cases e2 : k = 2
 ·subst e2
  simp only [if_true, true_or] at hm f1
  obtain rfl : body = [] := by simpa using f1
  have hm' : ts1.map (·.t) = [dcm v] ++ [wConst] ++ [nm] := by rw [hm]; simp
  obtain ⟨t0, tb, t2, rfl, w0, wb, w2⟩ := tok3 hm'
  obtain ⟨t1, rfl, w1⟩ := tok1 wb
  have hr0 : r.rest = t0 :: t1 :: t2 :: ts2 := by rw [hr]; simp
  have hw0 := hw t0 (by simp)
  have hk0 : t0.k = 2 := by rw [hw0.1, w0]; exact dcm_kd v ⟨v0, v1⟩
  have hv0 : t0.v = v := by rw [hw0.2, w0]; exact (dcm_num v ⟨v0, v1⟩).1
  refine ⟨⟨2, nm, v, [], t2.p⟩, { r with rest := ts2, at_ := t2, defs := r.defs ++ [⟨2, nm, v, [], t2.p⟩] }, by simp [smd, sml_nn], rfl, ?_, rfl, rfl, rfl⟩
  unfold item
  rw [next_ok e r t0 _ hr0]
  show (if (t0.k == 2) = true then numbered e t0 _ else _) = _
  rw [if_pos (by rw [hk0]; rfl)]
  unfold numbered
  rw [next_ok e _ t1 (t2 :: ts2) (by rfl)]
  show (if isW t1.t [99, 111, 110, 115, 116, 97, 110, 116] = true then _ else _) = _
  rw [w1, if_pos (by kernel_rfl), name_ok e _ t2 _ (by rfl) (by rw [w2]; exact f2) (by rw [w2]; exact hkn _ rfl)]
  show Except.ok (define 2 t2 t0.v [] _) = _
  unfold define
  rw [w2, hv0]
 rw [if_neg e2] at hm
 obtain ⟨rfl, rfl⟩ : k = 3 /\ body = [] := by
  by_cases e3 : k = 3
  ·rw [if_pos (.inr e3)] at f1
   exact ⟨e3, by simpa using f1⟩
  ·rw [if_neg (by omega)] at f1
   cases f1
 by_cases ev : v = 2
 ·subst ev
  rw [if_pos rfl] at hm
  have hm' : ts1.map (·.t) = [wVar] ++ [nm] := by rw [hm]; simp
  obtain ⟨x, y, rfl, hx, hy⟩ := tok_app hm'
  obtain ⟨t0, rfl, w0⟩ := tok1 hx
  obtain ⟨t2, rfl, w2⟩ := tok1 hy
  have hr0 : r.rest = t0 :: t2 :: ts2 := by rw [hr]; simp
  have hk0 : ¬ t0.k = 2 := not2 (hw t0 (by simp)) w0 (by kernel_rfl)
  refine ⟨⟨3, nm, 2, [], t2.p⟩, { r with rest := ts2, at_ := t2, defs := r.defs ++ [⟨3, nm, 2, [], t2.p⟩] }, by simp [smd, sml_nn], rfl, ?_, rfl, rfl, rfl⟩
  unfold item
  rw [next_ok e r t0 _ hr0]
  show (if (t0.k == 2) = true then _ else if isW t0.t [58] = true then _ else if isW t0.t [118, 97, 114, 105, 97, 98, 108, 101] = true then _ else _) = _
  rw [if_neg (by simpa using hk0), w0, if_neg (by decide), if_pos (by kernel_rfl), name_ok e _ t2 _ (by rfl) (by rw [w2]; exact f2) (by rw [w2]; exact hkn _ rfl)]
  show Except.ok (define 3 t2 2 [] _) = _
  unfold define
  rw [w2]
 rw [if_neg ev] at hm
 have hm' : ts1.map (·.t) = [dcm v] ++ [wBuf] ++ [nm] := by rw [hm]; simp
 obtain ⟨t0, tb, t2, rfl, w0, wb, w2⟩ := tok3 hm'
 obtain ⟨t1, rfl, w1⟩ := tok1 wb
 have hr0 : r.rest = t0 :: t1 :: t2 :: ts2 := by rw [hr]; simp
 have hw0 := hw t0 (by simp)
 have hk0 : t0.k = 2 := by rw [hw0.1, w0]; exact dcm_kd v ⟨v0, v1⟩
 have hv0 : t0.v = v := by rw [hw0.2, w0]; exact (dcm_num v ⟨v0, v1⟩).1
 refine ⟨⟨3, nm, v, [], t2.p⟩, { r with rest := ts2, at_ := t2, defs := r.defs ++ [⟨3, nm, v, [], t2.p⟩] }, by simp [smd, sml_nn], rfl, ?_, rfl, rfl, rfl⟩
 unfold item
 rw [next_ok e r t0 _ hr0]
 show (if (t0.k == 2) = true then numbered e t0 _ else _) = _
 rw [if_pos (by rw [hk0]; rfl)]
 unfold numbered
 rw [next_ok e _ t1 (t2 :: ts2) (by rfl)]
 show (if isW t1.t [99, 111, 110, 115, 116, 97, 110, 116] = true then _ else if isW t1.t [98, 117, 102, 102, 101, 114] = true then _ else _) = _
 rw [w1, if_neg (by decide), if_pos (by kernel_rfl)]
 show (must (decide (t0.v <= 16384)) t0 106 >>= _) = _
 rw [hv0]
 unfold must
 rw [if_pos (by rw [decide_eq_true_eq]; omega)]
 show (name e _ >>= _) = _
 rw [name_ok e _ t2 _ (by rfl) (by rw [w2]; exact f2) (by rw [w2]; exact hkn _ rfl)]
 show Except.ok (define 3 t2 v [] _) = _
 unfold define
 rw [w2]
end M
namespace M
open Go.Proofs.YtdnklgceghllaaaGreatDoor.K (Tk kd)
open Go.Proofs.YtdnklgceghllaaaGreatDoor.Y (Nd Df Ps Bk e0)
open Go.Proofs.YtdnklgceghllaaaGreatDoor.D (Rd Er Re next must name item numbered dataN bank itemsN isW known PM rd0 rres read_is)
open Go.Proofs.YtdnklgceghllaaaGreatDoor.R (isNm lk dfE dsE bkE chk)
set_option maxRecDepth 100000
theorem ok_bind {α β : Type} (a : α) (f : α -> Except Er β) : ((Except.ok a : Except Er α) >>= f) = f a := rfl
theorem data_ok (e : Ps) : ∀ (l d : List UInt8) (f : Nat) (ts1 : List Tk) (r : Rd) (ts2 : List Tk), (∀ t ∈ ts1, WfT t) -> ts1.map (·.t) = dws l ++ [wShut] -> r.rest = ts1 ++ ts2 -> d.length + l.length <= 16384 -> l.length + 1 <= f -> ∃ a, dataN e f d r = .ok (d ++ l, { r with rest := ts2, at_ := a })
 | [], d, f + 1, ts1, r, ts2, hw, hm, hr, hd, hf => by
  obtain ⟨t, rfl, wt⟩ := tok1 (by simpa [dws] using hm)
  refine ⟨t, ?_⟩
  unfold dataN
  rw [next_ok e r t ts2 (by rw [hr]; rfl)]
  show (if isW t.t [125] = true then _ else _) = _
  rw [wt, if_pos (by kernel_rfl), List.append_nil]
 | x :: l, d, f + 1, ts1, r, ts2, hw, hm, hr, hd, hf => by
  have hm' : ts1.map (·.t) = [dcm (x.toNat : Int)] ++ (dws l ++ [wShut]) := by rw [hm]; rfl
  obtain ⟨y, ts, rfl, hy, hz⟩ := tok_app hm'
  obtain ⟨t, rfl, wt⟩ := tok1 hy
  have hx := x.toNat_lt
  have hr16 : 0 <= (x.toNat : Int) /\ (x.toNat : Int) <= 65535 := by omega
  have hwt := hw t (by simp)
  have hk : t.k = 2 := by rw [hwt.1, wt]; exact dcm_kd _ hr16
  have hv : t.v = (x.toNat : Int) := by rw [hwt.2, wt]; exact (dcm_num _ hr16).1
  have hnw : isW t.t [125] = false := by
   unfold isW
   rw [wt, beq_eq_false_iff_ne]
   intro c
   have h1 := dcm_kd _ hr16
   rw [c] at h1
   exact absurd h1 (by decide)
  simp only [List.length_cons] at hd hf
  obtain ⟨a, ih⟩ := data_ok e l (d ++ [x]) f ts { r with rest := ts ++ ts2, at_ := t } ts2 (fun t ht => hw t (by simp [ht])) hz rfl (by rw [List.length_append]; simp only [List.length_cons, List.length_nil]; omega) (by omega)
  refine ⟨a, ?_⟩
  unfold dataN
  rw [next_ok e r t (ts ++ ts2) (by rw [hr]; rfl)]
  show (if isW t.t [125] = true then _ else (must (t.k == 2 && decide (t.v <= 255) && decide (d.length < 16384)) t 106 >>= _)) = _
  rw [if_neg (by rw [hnw]; decide), hk, hv]
  unfold must
  rw [if_pos (by simp only [beq_self_eq_true, Bool.true_and, Bool.and_eq_true, decide_eq_true_eq]; omega)]
  show dataN e f (d ++ [UInt8.ofNat ((x.toNat : Int)).toNat]) _ = _
  have hb : UInt8.ofNat ((x.toNat : Int)).toNat = x := by
   rw [Int.toNat_natCast, UInt8.ofNat_toNat]
  rw [hb, ih]
  simp
 | _, _, 0, _, _, _, _, _, _, _, hf => absurd hf (by omega)
theorem item_bank (e : Ps) (b : Bk) (hb : 0 <= b.1 /\ b.1 < 16 /\ b.2.length <= 16384) (ts1 : List Tk) (hw : ∀ t ∈ ts1, WfT t) (hm : ts1.map (·.t) = bw b) (r : Rd) (ts2 : List Tk) (hr : r.rest = ts1 ++ ts2) (hno : (r.banks.any fun x => x.1 == b.1) = false) :
  ∃ r1, item (lk PM) e r = .ok r1 /\ r1.rest = ts2 /\ r1.defs = r.defs /\ r1.banks = r.banks ++ [b] := by
 obtain ⟨n, l⟩ := b
 obtain ⟨h0, h1, h2⟩ := hb
 simp only at h0 h1 h2 hno
 have hwr : IntKind.u16.wrap n = n := by rw [IntKind.wrap_u16]; omega
 have hm' : ts1.map (·.t) = [dcm n] ++ ([wBank] ++ ([wOpen] ++ (dws l ++ [wShut]))) := by
  rw [hm]
  show [dcm (IntKind.u16.wrap n), wBank, wOpen] ++ dws l ++ [wShut] = _
  rw [hwr]
  simp
 obtain ⟨y0, z0, rfl, hy0, hz0⟩ := tok_app hm'
 obtain ⟨t0, rfl, w0⟩ := tok1 hy0
 obtain ⟨y1, z1, rfl, hy1, hz1⟩ := tok_app hz0
 obtain ⟨t1, rfl, w1⟩ := tok1 hy1
 obtain ⟨y2, ts, rfl, hy2, hz2⟩ := tok_app hz1
 obtain ⟨t2, rfl, w2⟩ := tok1 hy2
 have hr0 : r.rest = t0 :: t1 :: t2 :: (ts ++ ts2) := by rw [hr]; simp
 have hw0 := hw t0 (by simp)
 have hk0 : t0.k = 2 := by rw [hw0.1, w0]; exact dcm_kd n (by omega)
 have hv0 : t0.v = n := by rw [hw0.2, w0]; exact (dcm_num n (by omega)).1
 obtain ⟨a, hd⟩ := data_ok e l [] ((ts ++ ts2).length + 1) ts { r with rest := ts ++ ts2, at_ := t2 } ts2 (fun t ht => hw t (by simp [ht])) hz2 rfl (by simpa using h2) (by
  have := congrArg List.length hz2
  simp only [List.length_map, List.length_append, dws, List.length_cons, List.length_nil] at this ⊢
  omega)
 refine ⟨{ r with rest := ts2, at_ := a, banks := r.banks ++ [(n, l)] }, ?_, rfl, rfl, rfl⟩
 unfold item
 rw [next_ok e r t0 _ hr0]
 show (if (t0.k == 2) = true then numbered e t0 _ else _) = _
 rw [if_pos (by rw [hk0]; rfl)]
 unfold numbered
 rw [next_ok e _ t1 (t2 :: (ts ++ ts2)) (by rfl)]
 show (if isW t1.t [99, 111, 110, 115, 116, 97, 110, 116] = true then _ else if isW t1.t [98, 117, 102, 102, 101, 114] = true then _ else if isW t1.t [98, 97, 110, 107] = true then bank e t0 _ else _) = _
 rw [w1, if_neg (by decide), if_neg (by decide), if_pos (by kernel_rfl)]
 unfold bank must
 rw [hv0, if_pos (by rw [decide_eq_true_eq]; omega)]
 show ((if (!(r.banks.any fun b => b.1 == n)) = true then Except.ok () else _) >>= _) = _
 rw [hno, if_pos (show (!false) = true from rfl), ok_bind, next_ok e _ t2 (ts ++ ts2) (by rfl)]
 rw [ok_bind]
 show ((if isW t2.t [123] = true then Except.ok () else _) >>= _) = _
 rw [w2, if_pos (by kernel_rfl), ok_bind]
 show (dataN e ((ts ++ ts2).length + 1) [] _ >>= _) = _
 rw [hd]
 rfl
theorem smds_cons (a b : Df) (l l' : List Df) : smds (a :: l) (b :: l') = (smd a b && smds l l') := by
 unfold smds
 rw [List.length_cons, List.length_cons, List.zip_cons_cons, List.all_cons]
 have : ((l.length + 1 == l'.length + 1) : Bool) = (l.length == l'.length) := by
  by_cases h : l.length = l'.length
  ·simp [h]
  ·simp [h]
 rw [this]
 cases (l.length == l'.length) <;> cases (smd a b) <;> simp
theorem items_defs (e : Ps) : ∀ (ds : List Df) (ns : List ByteArray) (n : Nat) (ts1 : List Tk) (r : Rd) (ts2 : List Tk), (∀ s ∈ ns, isNm s = true) -> dsE ns ds = 0 -> ds.all vd = true -> (∀ t ∈ ts1, WfT t) -> ts1.map (·.t) = ds.flatMap dw -> r.rest = ts1 ++ ts2 -> r.defs.map (·.nm) = ns -> r.rest.length + 1 <= n ->
  ∃ ds' r1 n', itemsN (lk PM) e n r = itemsN (lk PM) e n' r1 /\ r1.rest = ts2 /\ r1.rest.length + 1 <= n' /\ r1.defs = r.defs ++ ds' /\ r1.banks = r.banks /\ smds ds ds' = true
 | [], ns, n, ts1, r, ts2, hN, hd, hv, hw, hm, hr, hns, hn => by
  have : ts1 = [] := by simpa using hm
  subst this
  exact ⟨[], r, n, rfl, by rw [hr]; rfl, hn, by simp, rfl, rfl⟩
 | d :: ds, ns, n, ts1, r, ts2, hN, hd, hv, hw, hm, hr, hns, hn => by
  obtain ⟨h1, h2⟩ := dsE_cons hd
  rw [List.all_cons, Bool.and_eq_true] at hv
  rw [List.flatMap_cons] at hm
  obtain ⟨ta, tb, rfl, ha, hb⟩ := tok_app hm
  obtain ⟨d', r1, s1, s2, i1, q1, q2, q3⟩ := item_def e d ns hN h1 hv.1 ta (fun t ht => hw t (by simp [ht])) ha r (tb ++ ts2) (by rw [hr, List.append_assoc]) hns
  have hta : 1 <= ta.length := by
   have := congrArg List.length ha
   rw [List.length_map] at this
   have hne := dw_ne d
   have := List.length_pos_iff.2 hne
   omega
  obtain ⟨m, rfl⟩ : ∃ m, n = m + 1 := ⟨n - 1, by omega⟩
  have hrl : r.rest.length = ta.length + (tb.length + ts2.length) := by rw [hr]; simp only [List.length_append]; omega
  have hr1l : r1.rest.length = tb.length + ts2.length := by rw [q1, List.length_append]
  obtain ⟨ds', r2, n', e1, p1, p2, p3, p4, p5⟩ := items_defs e ds (ns ++ [d.nm]) m tb r1 ts2 (fun s hs => by
   rcases List.mem_append.1 hs with hs | hs
   ·exact hN s hs
   ·rw [List.mem_singleton] at hs; rw [hs]; exact (dfE_is h1).2.1) h2 hv.2 (fun t ht => hw t (by simp [ht])) hb q1 (by rw [q2, List.map_append, hns]; simp [s2]) (by omega)
  refine ⟨d' :: ds', r2, n', ?_, p1, p2, by rw [p3, q2]; simp, by rw [p4, q3], by rw [smds_cons, s1, p5]; rfl⟩
  rw [itemsN, if_neg (by rw [List.isEmpty_iff]; intro c; rw [c] at hrl; simp at hrl; omega), i1]
  exact e1
theorem items_banks (e : Ps) : ∀ (bs : List Bk) (z : Int) (n : Nat) (ts1 : List Tk) (r : Rd), bkE z bs = 0 -> (∀ t ∈ ts1, WfT t) -> ts1.map (·.t) = bs.flatMap bw -> r.rest = ts1 -> (∀ b ∈ r.banks, b.1 <= z) -> r.rest.length + 1 <= n ->
  ∃ r1, itemsN (lk PM) e n r = .ok r1 /\ r1.defs = r.defs /\ r1.banks = r.banks ++ bs
 | [], z, n, ts1, r, hb, hw, hm, hr, hz, hn => by
  have : ts1 = [] := by simpa using hm
  subst this
  exact ⟨r, D.itemsN_end _ e n r hr, rfl, by simp⟩
 | b :: bs, z, n, ts1, r, hb, hw, hm, hr, hz, hn => by
  obtain ⟨h1, h2, h3, h4, h5⟩ := bkE_cons hb
  rw [List.flatMap_cons] at hm
  obtain ⟨ta, tb, rfl, ha, hb2⟩ := tok_app hm
  have hno : (r.banks.any fun x => x.1 == b.1) = false := by
   rw [List.any_eq_false]
   intro x hx
   have := hz x hx
   simp only [beq_iff_eq]
   omega
  obtain ⟨r1, i1, q1, q2, q3⟩ := item_bank e b ⟨h1, h2, h3⟩ ta (fun t ht => hw t (by simp [ht])) ha r tb hr hno
  have hta : 1 <= ta.length := by
   have := congrArg List.length ha
   rw [List.length_map] at this
   have := List.length_pos_iff.2 (bw_ne b)
   omega
  obtain ⟨m, rfl⟩ : ∃ m, n = m + 1 := ⟨n - 1, by omega⟩
  have hrl : r.rest.length = ta.length + tb.length := by rw [hr, List.length_append]
  obtain ⟨r2, e1, p1, p2⟩ := items_banks e bs b.1 m tb r1 h5 (fun t ht => hw t (by simp [ht])) hb2 q1 (fun x hx => by
   rw [q3] at hx
   rcases List.mem_append.1 hx with hx | hx
   ·have := hz x hx; omega
   ·rw [List.mem_singleton] at hx; rw [hx]; omega) (by rw [q1]; omega)
  refine ⟨r2, ?_, by rw [p1, q2], by rw [p2, q3]; simp⟩
  rw [itemsN, if_neg (by rw [List.isEmpty_iff]; intro c; rw [c] at hrl; simp at hrl; omega), i1]
  exact e1
theorem bk_sorted : ∀ (bs : List Bk) (z : Int), bkE z bs = 0 -> bs.Pairwise (fun a b => a.1 <= b.1) /\ ∀ b ∈ bs, z < b.1
 | [], z, _ => ⟨List.Pairwise.nil, fun b hb => by cases hb⟩
 | b :: bs, z, h => by
  obtain ⟨h1, h2, h3, h4, h5⟩ := bkE_cons h
  obtain ⟨p1, p2⟩ := bk_sorted bs b.1 h5
  refine ⟨List.Pairwise.cons (fun x hx => by have := p2 x hx; omega) p1, fun x hx => ?_⟩
  rcases List.mem_cons.1 hx with rfl | hx
  ·exact h4
  ·have := p2 x hx; omega
theorem main_same : ∀ (ds ds' : List Df), smds ds ds' = true -> ds.any R.isMain = ds'.any R.isMain
 | [], [], _ => rfl
 | [], _ :: _, h => by cases h
 | _ :: _, [], h => by cases h
 | d :: ds, d' :: ds', h => by
  rw [smds_cons, Bool.and_eq_true] at h
  rw [List.any_cons, List.any_cons, main_same ds ds' h.2]
  have h1 := h.1
  unfold smd at h1
  simp only [Bool.and_eq_true, beq_iff_eq, decide_eq_true_eq] at h1
  unfold R.isMain
  rw [h1.1, h1.2.1]
theorem read_words (e : Ps) (ds : List Df) (bs : List Bk) (hc : chk ds bs = 0) (hv : ds.all vd = true) (ts : List Tk) (hw : ∀ t ∈ ts, WfT t) (hm : ts.map (·.t) = ds.flatMap dw ++ bs.flatMap bw) :
  ∃ ds', D.read (lk PM) e ts = .ok (ds', bs) /\ smds ds ds' = true := by
 obtain ⟨c1, c2, c3⟩ := chk_is hc
 obtain ⟨ta, tb, rfl, ha, hb⟩ := tok_app hm
 obtain ⟨ds', r1, n', e1, p1, p2, p3, p4, p5⟩ := items_defs e ds [] ((ta ++ tb).length + 1) ta (rd0 (ta ++ tb)) tb (fun s hs => by cases hs) c1 hv (fun t ht => hw t (by simp [ht])) ha rfl rfl (Nat.le_refl _)
 obtain ⟨r2, e2, q1, q2⟩ := items_banks e bs (-1) n' tb r1 c2 (fun t ht => hw t (by simp [ht])) hb p1 (fun b hb => by rw [p4] at hb; cases hb) p2
 refine ⟨ds', ?_, p5⟩
 rw [read_is, e1, e2]
 show (if r2.defs.any R.isMain = true then _ else _) = _
 have hd : r2.defs = ds' := by rw [q1, p3]; rfl
 have hbk : r2.banks = bs := by rw [q2, p4]; rfl
 rw [hd, hbk, <- main_same ds ds' p5, if_pos c3]
 have hsrt : bs.mergeSort (fun a b => decide (a.1 <= b.1)) = bs := by
  apply List.mergeSort_of_pairwise
  exact (bk_sorted bs (-1) c2).1.imp (fun h => by simpa using h)
 rw [hsrt]
end M
namespace M
open Go.Proofs.YtdnklgceghllaaaGreatDoor.K (Tk kd tk ans sc At wd Gd Sep sp_word sep_one ext_list)
open Go.Proofs.YtdnklgceghllaaaGreatDoor.Y (Nd Df Ps Bk e0)
open Go.Proofs.YtdnklgceghllaaaGreatDoor.D (PM)
open Go.Proofs.YtdnklgceghllaaaGreatDoor.R (ck cks isNm lk dfE dsE bkE chk)
set_option maxRecDepth 100000
theorem words_inj : ∀ (l l' : List ByteArray), l.map (fun w : ByteArray => w.data.toList) = l'.map (fun w => w.data.toList) -> l = l'
  | [], [], _ => rfl
  | [], _ :: _, h => by cases h
  | _ :: _, [], h => by cases h
  | a :: l, b :: l', h => by
    simp only [List.map_cons, List.cons.injEq] at h
    rw [list_inj h.1, words_inj l l' h.2]
theorem toks_of (s : ByteArray) (hs : s.size <= 65536) (a : List (Nat × Nat)) (n : Nat) (h : sc s.data.toList = (a, n, 0)) (ws : List ByteArray) (hw : a.map (fun q => wd s.data.toList q.1 q.2) = ws.map (fun w => w.data.toList)) : (ans s).2.2 = 0 /\ (∀ t ∈ (ans s).1, WfT t) /\ (ans s).1.map (·.t) = ws := by
  have e : ans s = (a.map (tk s), (0, 0), 0) := by
    unfold ans
    rw [if_neg (by omega), h]
    rfl
  rw [e]
  refine ⟨rfl, fun t ht => ?_, ?_⟩
  · obtain ⟨q, _, rfl⟩ := List.mem_map.1 ht
    unfold WfT tk
    simp only
    rw [ext_list]
    exact ⟨rfl, rfl⟩
  · have h2 : (a.map (tk s)).map (fun t => t.t.data.toList) = ws.map (fun w => w.data.toList) := by
      rw [List.map_map, <- hw]
      apply List.map_congr_left
      intro q _
      show (tk s q).t.data.toList = _
      unfold tk
      exact ext_list s q.1 q.2
    have h3 : ((a.map (tk s)).map (·.t)).map (fun w : ByteArray => w.data.toList) = ws.map (fun w => w.data.toList) := by rw [List.map_map]; exact h2
    exact words_inj _ _ h3
def gdB (l : List UInt8) : Bool := !l.isEmpty && (l.all (fun c => T.seen c.toNat) && (l != [92] && (l != [40] && (decide (l.length <= 31) && decide (T.numE l ≠ 21)))))
theorem gd_of {l : List UInt8} (h : gdB l = true) : Gd l := by
  unfold gdB at h
  simp only [Bool.and_eq_true, Bool.not_eq_true', List.isEmpty_eq_false_iff, List.all_eq_true, bne_iff_ne, decide_eq_true_eq] at h
  obtain ⟨a, b, c, d, e, f⟩ := h
  exact ⟨a, b, c, d, e, f⟩
def GW (w : ByteArray) : Prop := Gd w.data.toList
theorem gw_fix {w : ByteArray} (h : gdB w.data.toList = true) : GW w := gd_of h
end M
namespace M
open Go.Proofs.YtdnklgceghllaaaGreatDoor.K (Tk ans sc At wd Gd Sep)
open Go.Proofs.YtdnklgceghllaaaGreatDoor.Y (Nd Df Ps Bk)
open Go.Proofs.YtdnklgceghllaaaGreatDoor.R (chk dsE bkE)
set_option maxRecDepth 100000
def ln : List ByteArray -> List (List UInt8 × List UInt8)
 | [] => []
 | [w] => [(w.data.toList, [10])]
 | w :: v :: r => (w.data.toList, [32]) :: ln (v :: r)
def fl (ws : List ByteArray) : List UInt8 := ws.flatMap fun w => w.data.toList ++ [32]
theorem fl_cons (w : ByteArray) (ws : List ByteArray) : fl (w :: ws) = w.data.toList ++ [32] ++ fl ws := rfl
end M
namespace M
open Go.Proofs.YtdnklgceghllaaaGreatDoor.K (Tk kd Gd ans)
open Go.Proofs.YtdnklgceghllaaaGreatDoor.Y (Nd Df Ps Bk e0)
open Go.Proofs.YtdnklgceghllaaaGreatDoor.D (Rd Er Re next must add put begin_ close turnElse turnWhile leave finish ctl isW lit prm cll ext setK setHas standIn node bodyN known PM name word define item numbered dataN bank itemsN rd0 rres read_is)
open Go.Proofs.YtdnklgceghllaaaGreatDoor.R (ck cks own1 fits inn isNm lk dfE dsE bkE chk)
set_option maxRecDepth 100000
theorem must_ok {b : Bool} {t : Tk} {c : Int} {u : Unit} (h : must b t c = .ok u) : b = true := by
 unfold must at h
 cases b with
 | true => rfl
 | false => cases h
end M
namespace M
open Go.Proofs.YtdnklgceghllaaaGreatDoor.K (Tk)
open Go.Proofs.YtdnklgceghllaaaGreatDoor.Y (Nd Df Ps e0)
open Go.Proofs.YtdnklgceghllaaaGreatDoor.D
def er : Nd -> Nd
 | ⟨k, op, v, nm, th, el, has, _⟩ => ⟨k, op, v, nm, th.map er, el.map er, has, (0, 0)⟩
def erT (t : Tk) : Tk := { t with p := (0, 0) }
def erD (d : Df) : Df := { d with body := d.body.map er, p := (0, 0) }
def erR (r : Rd) : Rd := ⟨r.rest.map erT, r.defs.map erD, r.banks, erT r.at_, r.body.map er, r.opn.map er, r.ended⟩
def erE {α β : Type} (f : α -> β) : Except Er α -> Except Er β
 | .error x => .error ((0, 0), x.2)
 | .ok r => .ok (f r)
theorem er_bind {α α' β β' : Type} {g : α -> α'} {h : β -> β'} {x : Except Er α} {x' : Except Er α'} {f : α -> Except Er β} {f' : α' -> Except Er β'} (hx : erE g x = x') (k : ∀ r, erE h (f r) = f' (g r)) : erE h (x >>= f) = (x' >>= f') := by
 subst hx
 cases x with
 | error e => rfl
 | ok r => exact k r
theorem er_must {β β' : Type} {h : β -> β'} {b b' : Bool} {t : Tk} {c : Int} {f : Unit -> Except Er β} {f' : Unit -> Except Er β'} (hb : b' = b) (k : erE h (f ()) = f' ()) : erE h (must b t c >>= f) = (must b' (erT t) c >>= f') := by
 subst hb
 unfold must
 cases b'
 ·rfl
 ·exact k
theorem next_er (e : Ps) (r : Rd) : erE erR (next e r) = next (0, 0) (erR r) := by
 unfold next
 cases h : r.rest with
 | nil =>
  have : (erR r).rest = [] := by simp [erR, h]
  rw [this]; rfl
 | cons t ts =>
  have : (erR r).rest = erT t :: ts.map erT := by simp [erR, h]
  rw [this]; rfl
section
variable (pr : ByteArray -> Option Int) (e : Ps)
theorem dataN_er : ∀ (n : Nat) (d : List UInt8) (r : Rd), erE (fun x : List UInt8 × Rd => (x.1, erR x.2)) (dataN e n d r) = dataN (0, 0) n d (erR r)
 | 0, d, r => rfl
 | n + 1, d, r => by
  rw [dataN, dataN]
  refine er_bind (next_er e r) fun r => ?_
  have ht : (erR r).at_.t = r.at_.t := rfl
  rw [ht]
  by_cases h : isW r.at_.t [125] = true
  ·rw [if_pos h, if_pos h]; rfl
  ·rw [if_neg h, if_neg h]
   exact er_must rfl (dataN_er n _ r)
end
end M
namespace M
open Go.Proofs.YtdnklgceghllaaaGreatDoor.Y (Nd Df Ps Bk DV BV hid)
open Go.Proofs.YtdnklgceghllaaaGreatDoor.D (RdO New Er)
open Go.Proofs.YtdnklgceghllaaaGreatDoor.R (chk)
set_option maxHeartbeats 4000000
set_option maxRecDepth 100000
theorem two_box (w : World) (dv xv p q : Value) : ∃ W2, (w.alloc (.cells #[dv, xv] 26)).alloc (.cells #[p, q] 28) = W2 /\ Below w.heap.size w W2 /\ W2.heap[w.heap.size]? = some (.cells [dv, xv].toArray 26 (0, 0)) /\ W2.heap[w.heap.size + 1]? = some (.cells [p, q].toArray 28 (0, 0)) :=
 ⟨_, rfl, ((Below.refl _ _).alloc (Nat.le_refl _) _).alloc (by simp) _, (Below.heap_alloc _ _ _ (by simp)).trans (heap_alloc_new w _), heap_alloc2_new w _ _⟩
theorem box2 {W w : World} {b : Nat} {x y : Value} {t : TypeId} (h : W.heap[b]? = some (.cells [x, y].toArray t (0, 0))) (k : Below W.heap.size W w) : w.cell? ⟨b, 0, none⟩ = some x /\ w.cell? ⟨b, 1, none⟩ = some y := by
 have h2 := (k.block _ (Array.getElem?_eq_some_iff.1 h).1).trans h
 exact ⟨S.cell_of w b 0 _ t _ h2 rfl, S.cell_of w b 1 _ t _ h2 rfl⟩
theorem dv_nil (w : World) (O : Nat -> Prop) : DV w O (.slice none 0 0) [] := ⟨none, 0, rfl, by simp, fun i d h => by simp at h⟩
theorem bv_nil (w : World) (O : Nat -> Prop) : BV w O (.slice none 0 0) [] := ⟨none, 0, rfl, fun i d h => by simp at h⟩
theorem prn1' : prn [df1] [] = (⟨#[58, 32, 109, 97, 105, 110, 32, 55, 32, 100, 114, 111, 112, 32, 59, 10]⟩, 0) := prn1
theorem df1_nm : ∀ d ∈ [df1], d.nm.size <= maxLen := fun d hd => by
 rw [List.mem_singleton] at hd
 rw [hd]
 decide
theorem fixed_any (W : World) (hT : P10 W) : Calls Tryz.prog 9 #[] W fun e w' => e = .returned (.bool true) /\ Below W.heap.size W w' := by
 have hc1 := parse_any tx1 (by decide) W
 rw [pans1] at hc1
 have hc2 := fun w => parse_any tx2 (by decide) w
 rw [pans2] at hc2
 unfold tx1 at hc1
 unfold tx2 at hc2
 have HT := hid hT
 clear hT
 go_enter Tryz.func9, Tryz.ntmps9
 go_wp2_with fail
 refine hc1.mono ?_
 rintro e w1 ⟨dv, xv, rfl, hD, hX, hb1⟩
 obtain ⟨p1, c1, e1, _⟩ := id hD
 obtain ⟨p2, c2, e2, _⟩ := id hX
 subst e1 e2
 simp only [List.length_cons, List.length_nil, Nat.zero_add] at hD hX ⊢
 obtain ⟨W2, hW2, hb2, u0, u1⟩ := two_box w1 (.slice p1 1 c1) (.slice p2 0 c2) (.int .i64 0) (.int .i64 0)
 have HH := hid (And.intro hD (And.intro hX (And.intro hb1 (And.intro hb2 (And.intro u0 u1)))))
 have HW2 := hid hW2
 clear hc1 hD hX hb1 hb2 u0 u1 hW2
 go_wp2_with fail
 rw [HW2.out]
 refine (hc2 W2).mono ?_
 rintro e w3 ⟨rfl, hb3⟩
 obtain ⟨W4, hW4, hb4, v0, v1⟩ := two_box w3 (.slice none 0 0) (.slice none 0 0) (.int .i64 1) (.int .i64 11)
 obtain ⟨hD, hX, hb1, hb2, u0, u1⟩ := HH.out
 have hb34 := hb3.trans (hb4.mono hb3.size)
 have hb24 : Below w1.heap.size w1 W4 := hb2.trans (hb34.mono hb2.size)
 obtain ⟨x0, x1⟩ := box2 u0 hb34
 obtain ⟨x2, x3⟩ := box2 u1 hb34
 obtain ⟨y0, y1⟩ := box2 v0 (Below.refl _ W4)
 obtain ⟨y2, y3⟩ := box2 v1 (Below.refl _ W4)
 have hB4 : Below W.heap.size W W4 := hb1.trans (hb24.mono hb1.size)
 have HX := hid (fun (w : World) (k : Below W4.heap.size W4 w) => box2 u0 (hb34.trans (k.mono hb34.size)))
 have HO := hid (fun (w : World) (k : Below W4.heap.size W4 w) => show (∀ j, New W w1 j -> j < w.heap.size) /\ DV w (New W w1) (.slice p1 1 c1) [df1] /\ BV w (New W w1) (.slice p2 0 c2) [] /\ P10 w /\ Below W.heap.size W w from by
  have hk : Below w1.heap.size w1 w := hb24.trans (k.mono hb24.size)
  have hW : Below W.heap.size W w := hB4.trans (k.mono hB4.size)
  exact ⟨fun j hj => Nat.lt_of_lt_of_le hj.2 hk.size, hD.below hk (fun j hj => hj.2), hX.below hk (fun j hj => hj.2), HT.out.below hW, hW⟩)
 clear hc2 hD hX hb1 hb2 u0 u1 v0 v1 hb3 hb4 hb34 hb24 hB4 HH
 have HW4 := hid hW4
 clear hW4
 go_upto_region 3 with fail
 rw [HW4.out]
 go_wp2_with fail
 obtain ⟨o1, o2, o3, o4, o5⟩ := HO.out W4 (Below.refl _ _)
 have hc3 := print_is [df1] [] df1_nm (by decide) _ _ _ W4 o1 o2 o3 o4
 rw [prn1'] at hc3
 clear o1 o2 o3 o4 o5
 refine hc3.mono ?_
 rintro e w5 ⟨rfl, hb5⟩
 obtain ⟨x0, x1⟩ := HX.out w5 hb5
 obtain ⟨o1, o2, o3, o4, o5⟩ := HO.out w5 hb5
 have hc4 := R.check_any [df1] [] df1_nm (by decide) _ _ _ w5 o1 o2 o3
 rw [chk1] at hc4
 have H5 := hid hb5
 clear hc3 hb5 o1 o2 o3 o4 o5 y0 y1 y2 y3 x2 x3
 go_wp2_with fail
 refine hc4.mono ?_
 rintro e w6 ⟨rfl, hb6⟩
 have hb46 := H5.out.trans (hb6.mono H5.out.size)
 obtain ⟨x0, x1⟩ := HX.out w6 hb46
 have hc5 := R.check_any [] [] (fun d hd => by cases hd) (by decide) _ _ (fun _ => False) w6 (fun j hj => hj.elim) (dv_nil _ _) (bv_nil _ _)
 rw [chk0] at hc5
 have H6 := hid hb46
 clear hc4 hb6 hb46 H5
 go_wp2_with fail
 refine hc5.mono ?_
 rintro e w7 ⟨rfl, hb7⟩
 have hb47 := H6.out.trans (hb7.mono H6.out.size)
 obtain ⟨x0, x1⟩ := HX.out w7 hb47
 obtain ⟨o1, o2, o3, o4, o5⟩ := HO.out w7 hb47
 have hc6 := same_any [df1] [df1] [] [] (by decide) _ _ _ _ _ w7 o1 o2 o3 o2 o3
 rw [smds_refl, smbs_refl, Bool.and_true] at hc6
 have H7 := hid hb47
 clear hc5 hb7 hb47 H6 o1 o2 o3 o4 o5
 go_wp2_with fail
 refine hc6.mono ?_
 rintro e w8 ⟨rfl, hb8⟩
 have hb48 := H7.out.trans (hb8.mono H7.out.size)
 obtain ⟨x0, x1⟩ := HX.out w8 hb48
 obtain ⟨o1, o2, o3, o4, o5⟩ := HO.out w8 hb48
 have hc7 := same_any [df1] [] [] [] (by decide) _ _ (.slice none 0 0) (.slice none 0 0) _ w8 o1 o2 o3 (dv_nil _ _) (bv_nil _ _)
 rw [show smds [df1] [] = false from rfl, Bool.false_and] at hc7
 have H8 := hid hb48
 clear hc6 hb8 hb48 H7 o1 o2 o3 o4 o5
 go_wp2_with fail
 refine hc7.mono ?_
 rintro e w9 ⟨rfl, hb9⟩
 have H9 := hid (HO.out w9 (H8.out.trans (hb9.mono H8.out.size))).2.2.2.2
 clear hc7 hb9
 go_wp2
 go_ret
 exact ⟨rfl, H9.out⟩
end M
namespace M
open Go.Proofs.YtdnklgceghllaaaGreatDoor.K (Tk ans Sep Gd)
open Go.Proofs.YtdnklgceghllaaaGreatDoor.Y (Nd Df Ps Bk DV BV hid)
open Go.Proofs.YtdnklgceghllaaaGreatDoor.D (RdO New Er tkc wp_region_drop wpD_take wpD_ready wpD_done)
set_option maxHeartbeats 4000000
set_option maxRecDepth 100000
def IG (w : World) (p : Option Addr) (n : Nat) : Prop := ∀ i, i < n -> ∃ b o z, p = some ⟨b, o, none⟩ /\ w.cell? ⟨b, o + i, none⟩ = some (.int .i64 z) /\ (IntKind.min .i64 <= z /\ z <= IntKind.max .i64)
end M
namespace M
open Go.Proofs.YtdnklgceghllaaaGreatDoor.K (Tk kd tk ans sc At wd Gd Sep sp_word sep_one ext_list)
open Go.Proofs.YtdnklgceghllaaaGreatDoor.Y (Nd Df Ps Bk e0)
open Go.Proofs.YtdnklgceghllaaaGreatDoor.D (PM rd0 read_is known Rd Re Er bodyN node next begin_ must ctl lit prm cll add setK close finish word name define item itemsN)
open Go.Proofs.YtdnklgceghllaaaGreatDoor.R (ck cks isNm lk dfE dsE bkE chk inn own1 ck_is cks_cons cks_nil)
set_option maxRecDepth 100000
theorem five {k : Nat} (h : k < 5) : k = 0 \/ k = 1 \/ k = 2 \/ k = 3 \/ k = 4 := by omega
def opw (k : Nat) : ByteArray := if k = 0 \/ k = 4 then wIf else wBegin
def shw (k : Nat) : List ByteArray := if k = 0 then [wThen] else if k = 1 then [wUntil] else if k = 2 then [wWhile, wRepeat] else if k = 3 then [wAgain] else [wElse, wThen]
def nk (k : Nat) : Int := if k = 1 then 5 else if k = 2 then 6 else if k = 3 then 7 else 4
def nest : List Nat -> List Nd
  | [] => []
  | k :: r => [⟨nk k, 0, 0, e0, nest r, [], k == 4, (0, 0)⟩]
def cls : List Nat -> List ByteArray
  | [] => []
  | k :: r => cls r ++ shw k
theorem nest_words : ∀ ks : List Nat, (∀ k ∈ ks, k < 5) -> nws (nest ks) = ks.map opw ++ cls ks
  | [], _ => rfl
  | k :: r, h => by
    have ih := nest_words r fun x hx => h x (List.mem_cons_of_mem _ hx)
    rw [nest, nws_cons, nws_nil, List.append_nil, nw_is]
    simp only [nws_nil, ih]
    rcases five (h k (List.mem_cons_self ..)) with rfl | rfl | rfl | rfl | rfl <;> simp [nwf, nk, opw, shw, cls]
theorem own_nest (k : Nat) (hk : k < 5) (th : List Nd) (p : Ps) (i : Nat × Bool) : own1 [] ⟨nk k, 0, 0, e0, th, [], k == 4, p⟩ i = if i.1 = 32 then 109 else 0 := by
  rcases five hk with rfl | rfl | rfl | rfl | rfl <;> simp [own1, R.uses, R.usesF, R.fits, R.strc, nk, e0_list]
theorem cks_nest : ∀ (ks : List Nat) (i : Nat × Bool), (∀ k ∈ ks, k < 5) -> i.1 <= 32 -> cks [] (nest ks) i = if i.1 + ks.length <= 32 then 0 else 109
  | [], i, _, hi => by rw [nest, cks_nil, if_pos (by simpa using hi)]
  | k :: r, i, h, hi => by
    have ho := own_nest k (h k (List.mem_cons_self ..)) (nest r) (0, 0) i
    have ih := cks_nest r (inn ⟨nk k, 0, 0, e0, nest r, [], k == 4, (0, 0)⟩ i) fun x hx => h x (List.mem_cons_of_mem _ hx)
    have e1 : ∀ x : Int, (if x = 0 then (0 : Int) else x) = x := fun x => by split <;> simp_all
    rw [nest, cks_cons, cks_nil, e1, ck_is, ho]
    by_cases h32 : i.1 = 32
    · rw [if_pos h32, if_neg (by decide), if_neg (by rw [List.length_cons]; omega)]
    · rw [if_neg h32, if_pos rfl]
      have hi1 : (inn ⟨nk k, 0, 0, e0, nest r, [], k == 4, (0, 0)⟩ i).1 = i.1 + 1 := rfl
      rw [hi1] at ih
      simp only [cks_nil, e1]
      rw [ih (by omega), List.length_cons]
      by_cases hc : i.1 + 1 + r.length <= 32
      · rw [if_pos hc, if_pos (by omega)]
      · rw [if_neg hc, if_neg (by omega)]
def dfn (ks : List Nat) : Df := ⟨1, mn, 0, nest ks, (0, 0)⟩
theorem nm_mn : isNm mn = true := by rw [im_is]; kernel_rfl
theorem chk_nest (ks : List Nat) (h : ∀ k ∈ ks, k < 5) : chk [dfn ks] [] = if ks.length <= 32 then 0 else 109 := by
  have hc := cks_nest ks (0, false) h (by decide)
  have hd : dfE [] (dfn ks) = if ks.length <= 32 then 0 else 109 := by
    unfold dfE
    simp [dfn, R.fieldsF, nm_mn, hc]
  unfold chk
  have hm : ([dfn ks].any R.isMain) = true := by
    have : R.isMain (dfn ks) = true := by unfold R.isMain dfn; simp only; rfl
    simp [this]
  by_cases h32 : ks.length <= 32
  · rw [if_pos h32] at hd ⊢
    rw [dsE, if_pos hd]
    simp [dsE, R.bkE, hm]
  · rw [if_neg h32] at hd ⊢
    rw [dsE, hd]
    simp
theorem vns_nest : ∀ ks : List Nat, (∀ k ∈ ks, k < 5) -> vns (nest ks) = true
  | [], _ => rfl
  | k :: r, h => by
    have ih := vns_nest r fun x hx => h x (List.mem_cons_of_mem _ hx)
    have hk : (nk k != 2) = true := by rcases five (h k (List.mem_cons_self ..)) with rfl | rfl | rfl | rfl | rfl <;> rfl
    have hv : vn ⟨nk k, 0, 0, e0, nest r, [], k == 4, (0, 0)⟩ = true := by
      rw [vn_is]
      simp only [hk, ih, Bool.true_or, Bool.true_and]
      rfl
    rw [nest]
    show ([vn _]).all id = true
    rw [hv]
    rfl
theorem sml_nest : ∀ (ks : List Nat) (l : List Nd), sml (nest ks) l = true -> sml l (nest ks) = true
  | [], l, h => by
    cases l with
    | nil => rfl
    | cons a r => rw [nest, sml_nc] at h; cases h
  | k :: r, l, h => by
    rw [nest] at h ⊢
    cases l with
    | nil => rw [sml_cn] at h; cases h
    | cons a t =>
      rw [sml_cc] at h ⊢
      cases t with
      | cons b t => rw [sml_nc, Bool.and_false] at h; cases h
      | nil =>
        rw [sml_nn, Bool.and_true] at h ⊢
        cases a with
        | mk k' op v nm th el has p =>
          rw [sm] at h ⊢
          simp only [Bool.and_eq_true, beq_iff_eq, decide_eq_true_eq] at h ⊢
          obtain ⟨h1, h2, h3, h4, h5, h6, h7⟩ := h
          refine ⟨h1.symm, h2.symm, h3.symm, h4.symm, h5.symm, sml_nest r th h6, ?_⟩
          cases el with
          | nil => rfl
          | cons b t => exact absurd h7 (by show ¬ sml [] (b :: t) = true; rw [sml_nc]; decide)
theorem gw_op (k : Nat) : GW (opw k) := by
  unfold opw
  split
  · exact gw_fix (by kernel_rfl)
  · exact gw_fix (by kernel_rfl)
theorem gw_cls : ∀ ks : List Nat, ∀ w ∈ cls ks, GW w
  | [], w, h => by cases h
  | k :: r, w, h => by
    rw [cls] at h
    rcases List.mem_append.1 h with h | h
    · exact gw_cls r w h
    · have hall : ∀ w ∈ [wThen, wUntil, wWhile, wRepeat, wAgain, wElse], gdB w.data.toList = true := fun w hw => by
        simp only [List.mem_cons, List.not_mem_nil, or_false] at hw
        rcases hw with rfl | rfl | rfl | rfl | rfl | rfl <;> kernel_rfl
      refine gw_fix (hall w ?_)
      unfold shw at h
      split at h
      · simp at h; simp [h]
      · split at h
        · simp at h; simp [h]
        · split at h
          · simp at h; rcases h with h | h <;> simp [h]
          · split at h
            · simp at h; simp [h]
            · simp at h; rcases h with h | h <;> simp [h]
theorem fl_scan : ∀ (ws : List ByteArray) (x : ByteArray) (p : List UInt8) (a : List (Nat × Nat)), (∀ w ∈ ws, GW w) -> GW x -> At (p ++ (fl ws ++ x.data.toList)) p.length a ->
    ∃ a', sc (p ++ (fl ws ++ x.data.toList)) = (a ++ a', (p ++ (fl ws ++ x.data.toList)).length, 0) /\ a'.map (fun q => wd (p ++ (fl ws ++ x.data.toList)) q.1 q.2) = (ws ++ [x]).map (fun w => w.data.toList) /\
      ∀ j, j <= ws.length -> ∃ b, a'[j]? = some (p.length + (fl (ws.take j)).length, b)
  | [], x, p, a, _, hx, h => by
    have e0 : p ++ (fl [] ++ x.data.toList) = p ++ (x.data.toList ++ []) := by simp [fl]
    rw [e0] at h ⊢
    have hp0 : 0 < x.data.toList.length := List.length_pos_iff.2 hx.ne
    have h2 := h.wo (by simp only [List.length_append]; omega) (sp_word p x.data.toList [] hx (.inl rfl))
    have hwd := K.wd_mid p x.data.toList []
    have el2 : p.length + x.data.toList.length = (p ++ x.data.toList).length := by simp only [List.length_append]
    refine ⟨[(p.length, p.length + x.data.toList.length)], ?_, ?_, fun j hj => ?_⟩
    · rw [h2.fin (by simp)]
      simp
    · simp only [List.map_cons, List.map_nil, hwd, List.nil_append]
    · obtain rfl : j = 0 := by simpa using hj
      exact ⟨_, rfl⟩
  | w :: ws, x, p, a, hw, hx, h => by
    have e0 : p ++ (fl (w :: ws) ++ x.data.toList) = p ++ (w.data.toList ++ ([32] ++ (fl ws ++ x.data.toList))) := by rw [fl_cons]; simp
    rw [e0] at h ⊢
    have hg := hw w (List.mem_cons_self ..)
    have hsp := sp_word p w.data.toList ([32] ++ (fl ws ++ x.data.toList)) hg (.inr ⟨32, fl ws ++ x.data.toList, rfl, by decide⟩)
    have hp0 : 0 < w.data.toList.length := List.length_pos_iff.2 hg.ne
    have h2 := h.wo (by simp only [List.length_append]; omega) hsp
    have hwd := K.wd_mid p w.data.toList ([32] ++ (fl ws ++ x.data.toList))
    have e2 : p ++ (w.data.toList ++ ([32] ++ (fl ws ++ x.data.toList))) = (p ++ w.data.toList) ++ ([32] ++ (fl ws ++ x.data.toList)) := by simp
    have el2 : p.length + w.data.toList.length = (p ++ w.data.toList).length := by simp only [List.length_append]
    rw [e2, el2] at h2
    rw [e2, el2] at hwd
    have h3 := sep_one.skip (p ++ w.data.toList) (fl ws ++ x.data.toList) _ h2
    have e3 : (p ++ w.data.toList) ++ ([32] ++ (fl ws ++ x.data.toList)) = (p ++ w.data.toList ++ [32]) ++ (fl ws ++ x.data.toList) := by simp
    have el3 : (p ++ w.data.toList).length + [(32 : UInt8)].length = (p ++ w.data.toList ++ [32]).length := by simp only [List.length_append]
    rw [e3, el3] at h3
    rw [e3] at hwd
    obtain ⟨a', h4, h5, h6⟩ := fl_scan ws x (p ++ w.data.toList ++ [32]) _ (fun v hv => hw v (List.mem_cons_of_mem _ hv)) hx h3
    refine ⟨(p.length, (p ++ w.data.toList).length) :: a', ?_, ?_, fun j hj => ?_⟩
    · rw [e2, e3, h4]; simp
    · rw [e2, e3, List.map_cons, h5, hwd]; rfl
    · cases j with
      | zero => exact ⟨_, rfl⟩
      | succ j =>
        obtain ⟨b, hb⟩ := h6 j (by rw [List.length_cons] at hj; omega)
        refine ⟨b, ?_⟩
        rw [List.getElem?_cons_succ, hb, List.take_succ_cons, fl_cons]
        simp only [List.length_append, Nat.add_assoc]
theorem deep_toks (s : ByteArray) (hz : s.size <= 65536) (ws : List ByteArray) (x : ByteArray) (h : s.data.toList = fl ws ++ x.data.toList) (hw : ∀ w ∈ ws, GW w) (hx : GW x) :
    (ans s).2.2 = 0 /\ (∀ t ∈ (ans s).1, WfT t) /\ (ans s).1.map (·.t) = ws ++ [x] /\ ∀ j, j <= ws.length -> ∃ t, (ans s).1[j]? = some t /\ t.p = T.place s.data.toList (fl (ws.take j)).length := by
  obtain ⟨a', h1, h2, h3⟩ := fl_scan ws x [] [] hw hx (At.start _)
  rw [List.nil_append, <- h] at h1 h2
  rw [List.nil_append] at h1
  obtain ⟨t1, t2, t3⟩ := toks_of s hz a' _ h1 (ws ++ [x]) h2
  refine ⟨t1, t2, t3, fun j hj => ?_⟩
  obtain ⟨b, hb⟩ := h3 j hj
  have e : ans s = (a'.map (tk s), (0, 0), 0) := by
    unfold ans
    rw [if_neg (by omega), h1]
    rfl
  refine ⟨tk s ((fl (ws.take j)).length, b), ?_, rfl⟩
  rw [e]
  show (a'.map (tk s))[j]? = _
  rw [List.getElem?_map, hb]
  simp
theorem place_line (l : List UInt8) (o : Nat) (h : o <= l.length) (hn : ∀ k (hk : k < l.length), k < o -> l[k].toNat ≠ 10) : T.place l o = (1, (o : Int) + 1) := by
  have := T.place_seg l 0 1 (T.place_zero l) o (Nat.zero_le _) h fun k hk _ h2 => hn k hk h2
  simpa using this
theorem opens (e : Ps) : ∀ (ks : List Nat) (ts ts2 : List Tk) (r : Rd) (i : Nat × Bool), (∀ k ∈ ks, k < 5) -> (∀ t ∈ ts, WfT t) -> ts.map (·.t) = ks.map opw -> r.rest = ts ++ ts2 -> St r i [] -> i.1 + ks.length <= 32 ->
    ∃ r', (∀ n, bodyN (lk PM) e (n + ks.length) r = bodyN (lk PM) e n r') /\ r'.rest = ts2 /\ St r' (i.1 + ks.length, i.2) []
  | [], ts, ts2, r, i, _, _, hm, hr, hs, _ => by
    obtain rfl : ts = [] := by cases ts with
      | nil => rfl
      | cons a b => cases hm
    exact ⟨r, fun n => rfl, hr, by simpa using hs⟩
  | k :: ks, ts, ts2, r, i, hk, hw, hm, hr, hs, hi => by
    cases ts with
    | nil => cases hm
    | cons t tb =>
      simp only [List.map_cons, List.cons.injEq] at hm
      rw [List.length_cons] at hi
      rw [List.cons_append] at hr
      have hstep : ∃ kk : Int, (kk == 8) = false /\ ∀ m, bodyN (lk PM) e (m + 1) r = bodyN (lk PM) e m { r with rest := tb ++ ts2, at_ := t, opn := r.opn ++ [⟨kk, 0, 0, e0, [], [], false, t.p⟩] } := by
        by_cases h4 : k = 0 \/ k = 4
        · have e1 : opw k = wIf := by unfold opw; rw [if_pos h4]
          exact ⟨4, rfl, fun m => open_step e r t (tb ++ ts2) i [] hr hs (by omega) (hw t (List.mem_cons_self ..)) wIf 4 (by kernel_rfl) rfl (hm.1.trans e1) m⟩
        · have e1 : opw k = wBegin := by unfold opw; rw [if_neg h4]
          exact ⟨0, rfl, fun m => open_step e r t (tb ++ ts2) i [] hr hs (by omega) (hw t (List.mem_cons_self ..)) wBegin 0 (by kernel_rfl) rfl (hm.1.trans e1) m⟩
      obtain ⟨kk, hk8, hst⟩ := hstep
      have hs2 : St { r with rest := tb ++ ts2, at_ := t, opn := r.opn ++ [⟨kk, 0, 0, e0, [], [], false, t.p⟩] } (i.1 + 1, i.2) [] := by
        refine ⟨hs.nend, ?_, ?_, hs.nms⟩
        · show (r.opn ++ [_]).length = _
          rw [List.length_append, hs.dep]; rfl
        · show (r.opn ++ [_]).any _ = _
          rw [List.any_append, hs.ind]
          simp [hk8]
      obtain ⟨r', h1, h2, h3⟩ := opens e ks tb ts2 _ (i.1 + 1, i.2) (fun x hx => hk x (List.mem_cons_of_mem _ hx)) (fun x hx => hw x (List.mem_cons_of_mem _ hx)) hm.2 rfl hs2 (by simp only; omega)
      refine ⟨r', fun n => ?_, h2, ?_⟩
      · rw [List.length_cons, <- Nat.add_assoc, hst, h1]
      · simp only at h3
        rw [List.length_cons, show i.1 + (ks.length + 1) = i.1 + 1 + ks.length by omega]
        exact h3
theorem opens_no (e : Ps) (r : Rd) (t : Tk) (ts : List Tk) (b : Bool) (k : Nat) (hr : r.rest = t :: ts) (hs : St r (32, b) []) (hw : WfT t) (ht : t.t = opw k) (n : Nat) : bodyN (lk PM) e (n + 1) r = .error (t.p, 109) := by
  have hd := hs.dep
  rw [bodyN, if_neg (by rw [hs.nend]; decide)]
  have hn : next e r = .ok { r with at_ := t, rest := ts } := by unfold next; rw [hr]
  rw [hn]
  show (node (lk PM) { r with at_ := t, rest := ts } >>= _) = _
  have hc : ∃ kk, ctl t.t = some (begin_ kk) /\ ¬ t.k = 2 := by
    by_cases h4 : k = 0 \/ k = 4
    · have e1 : t.t = wIf := by rw [ht]; unfold opw; rw [if_pos h4]
      exact ⟨4, by rw [e1]; rfl, not2 hw e1 (by kernel_rfl)⟩
    · have e1 : t.t = wBegin := by rw [ht]; unfold opw; rw [if_neg h4]
      exact ⟨0, by rw [e1]; rfl, not2 hw e1 (by kernel_rfl)⟩
  obtain ⟨kk, hc1, hc2⟩ := hc
  rw [node_ctl _ (begin_ kk) hc2 (by show ctl t.t = _; exact hc1)]
  unfold begin_ must
  simp only
  rw [if_neg (by rw [decide_eq_true_eq, hd]; omega)]
  rfl
theorem read_deep (e : Ps) (ts : List Tk) (ks : List Nat) (rest : List ByteArray) (hk : ∀ k ∈ ks, k < 5) (h32 : 32 < ks.length) (hw : ∀ t ∈ ts, WfT t) (hm : ts.map (·.t) = [wColon, mn] ++ (ks.map opw ++ rest)) :
    ∃ t, ts[34]? = some t /\ D.read (lk PM) e ts = .error (t.p, 109) := by
  obtain ⟨x, y, rfl, hx, hy⟩ := tok_app hm
  obtain ⟨t0, x1, rfl⟩ : ∃ t0 x1, x = t0 :: x1 := by cases x with
    | nil => cases hx
    | cons a b => exact ⟨a, b, rfl⟩
  obtain ⟨t1, x2, rfl⟩ : ∃ t1 x2, x1 = t1 :: x2 := by cases x1 with
    | nil => simp at hx
    | cons a b => exact ⟨a, b, rfl⟩
  obtain rfl : x2 = [] := by cases x2 with
    | nil => rfl
    | cons a b => simp at hx
  simp only [List.map_cons, List.map_nil, List.cons.injEq, and_true] at hx
  obtain ⟨w0, w1⟩ := hx
  have hy' : y.map (·.t) = (ks.take 32).map opw ++ ((ks.drop 32).map opw ++ rest) := by rw [hy, <- List.append_assoc, <- List.map_append, List.take_append_drop]
  obtain ⟨y1, y2, rfl, hy1, hy2⟩ := tok_app hy'
  have hdr : ∃ k33 kr, ks.drop 32 = k33 :: kr := by
    cases hd : ks.drop 32 with
    | nil => have := congrArg List.length hd; rw [List.length_drop] at this; simp at this; omega
    | cons a b => exact ⟨a, b, rfl⟩
  obtain ⟨k33, kr, hdr⟩ := hdr
  rw [hdr] at hy2
  obtain ⟨t33, y3, rfl⟩ : ∃ t33 y3, y2 = t33 :: y3 := by cases y2 with
    | nil => cases hy2
    | cons a b => exact ⟨a, b, rfl⟩
  simp only [List.map_cons, List.cons_append, List.cons.injEq] at hy2
  have hl1 : y1.length = 32 := by
    have := congrArg List.length hy1
    rw [List.length_map, List.length_map, List.length_take] at this
    omega
  have hlt : (ks.take 32).length = 32 := by rw [List.length_take]; omega
  refine ⟨t33, ?_, ?_⟩
  · rw [List.getElem?_append_right (by simp)]
    simp only [List.length_cons, List.length_nil]
    rw [List.getElem?_append_right (by omega), hl1]
    rfl
  have hk0 : ¬ t0.k = 2 := not2 (hw t0 (by simp)) w0 (by kernel_rfl)
  have hb : ∀ r0 : Rd, r0.rest = y1 ++ (t33 :: y3) -> St r0 (0, false) [] -> bodyN (lk PM) e ((y1 ++ (t33 :: y3)).length + 1) r0 = .error (t33.p, 109) := fun r0 hr0 hs0 => by
    obtain ⟨r', h1, h2, h3⟩ := opens e (ks.take 32) y1 (t33 :: y3) r0 (0, false) (fun x hx => hk x (List.mem_of_mem_take hx)) (fun t ht => hw t (by simp [ht])) hy1 hr0 hs0 (by rw [hlt]; decide)
    rw [hlt] at h1 h3
    have hfu : (y1 ++ (t33 :: y3)).length + 1 = (y3.length + 1 + 1) + 32 := by simp only [List.length_append, List.length_cons, hl1]; omega
    rw [hfu, h1]
    exact opens_no e r' t33 y3 false k33 h2 h3 (hw t33 (by simp)) hy2.1 _
  rw [read_is]
  have hit : item (lk PM) e (rd0 ([t0, t1] ++ (y1 ++ t33 :: y3))) = .error (t33.p, 109) := by
    unfold item
    rw [next_ok e _ t0 (t1 :: (y1 ++ t33 :: y3)) rfl]
    show (if (t0.k == 2) = true then _ else if D.isW t0.t [58] = true then _ else _) = _
    rw [if_neg (by simpa using hk0), w0, if_pos (by kernel_rfl)]
    unfold word
    rw [name_ok e _ t1 (y1 ++ t33 :: y3) (by rfl) (by rw [w1]; exact nm_mn) (by unfold known; rfl)]
    show (bodyN (lk PM) e ((y1 ++ (t33 :: y3)).length + 1) _ >>= _) = _
    rw [hb _ rfl ⟨rfl, rfl, rfl, rfl⟩]
    rfl
  rw [itemsN]
  rw [if_neg (by show ¬ (([t0, t1] ++ (y1 ++ t33 :: y3)).isEmpty = true); simp), hit]
  rfl
end M
namespace M
open Go.Proofs.YtdnklgceghllaaaGreatDoor.K (Tk kd tk ans sc At wd Gd)
open Go.Proofs.YtdnklgceghllaaaGreatDoor.Y (Nd Df Ps Bk e0)
open Go.Proofs.YtdnklgceghllaaaGreatDoor.D (PM Er)
open Go.Proofs.YtdnklgceghllaaaGreatDoor.R (lk chk)
set_option maxRecDepth 100000
theorem cls_snoc : ∀ (ks : List Nat) (k : Nat), cls (ks ++ [k]) = shw k ++ cls ks
 | [], k => by simp [cls]
 | a :: r, k => by rw [List.cons_append, cls, cls_snoc r k, cls, List.append_assoc]
theorem fl_app (a b : List ByteArray) : fl (a ++ b) = fl a ++ fl b := by unfold fl; rw [List.flatMap_append]
theorem fl_few : ∀ ws : List ByteArray, (∀ w ∈ ws, GW w) -> (fl ws).length <= 32 * ws.length
 | [], _ => by simp [fl]
 | w :: ws, h => by
  have ih := fl_few ws fun v hv => h v (List.mem_cons_of_mem _ hv)
  have h1 := (h w (List.mem_cons_self ..)).le
  rw [fl_cons]
  simp only [List.length_append, List.length_cons, List.length_nil]
  omega
theorem gw_plain {w : ByteArray} (h : GW w) : ∀ c ∈ w.data.toList, c.toNat ≠ 10 := fun c hc e => by
 have := h.seen c hc
 rw [e] at this
 exact absurd this (by decide)
theorem fl_plain : ∀ ws : List ByteArray, (∀ w ∈ ws, GW w) -> ∀ c ∈ fl ws, c.toNat ≠ 10
 | [], _, c, hc => by cases hc
 | w :: ws, h, c, hc => by
  rw [fl_cons] at hc
  rcases List.mem_append.1 hc with hc | hc
  ·rcases List.mem_append.1 hc with hc | hc
   ·exact gw_plain (h w (List.mem_cons_self ..)) c hc
   ·simp at hc; subst hc; decide
  ·exact fl_plain ws (fun v hv => h v (List.mem_cons_of_mem _ hv)) c hc
theorem cls_few : ∀ ks : List Nat, (cls ks).length <= 2 * ks.length
 | [] => by simp [cls]
 | k :: r => by
  have ih := cls_few r
  have h2 : (shw k).length <= 2 := by
   unfold shw
   split
   ·simp
   ·split
    ·simp
    ·split
     ·simp
     ·split <;> simp
  rw [cls, List.length_append, List.length_cons]
  omega
def dpw (ks : List Nat) : List ByteArray := [wColon, mn] ++ (ks.map opw ++ cls ks)
theorem dw_dfn (ks : List Nat) (h : ∀ k ∈ ks, k < 5) : dw (dfn ks) = dpw ks ++ [wSemi] := by
 unfold dw dfn dpw
 simp only [if_true, nest_words ks h]
theorem gw_colon : GW wColon := gw_fix (by kernel_rfl)
theorem gw_semi : GW wSemi := gw_fix (by kernel_rfl)
theorem gw_mn : GW mn := gw_fix (by kernel_rfl)
theorem dpw_gw (ks : List Nat) : ∀ w ∈ dpw ks, GW w := fun w hw => by
 unfold dpw at hw
 rcases List.mem_append.1 hw with hw | hw
 ·simp at hw
  rcases hw with rfl | rfl
  ·exact gw_colon
  ·exact gw_mn
 ·rcases List.mem_append.1 hw with hw | hw
  ·obtain ⟨k, _, rfl⟩ := List.mem_map.1 hw
   exact gw_op k
  ·exact gw_cls ks w hw
theorem dpw_len (ks : List Nat) (h : ks.length <= 40) : (fl (dpw ks)).length <= 3904 := by
 have h1 := fl_few (dpw ks) (dpw_gw ks)
 have h2 := cls_few ks
 unfold dpw at h1 ⊢
 simp only [List.length_append, List.length_cons, List.length_nil, List.length_map] at h1
 omega
theorem size_of_list (s : ByteArray) : s.size = s.data.toList.length := by rw [Array.length_toList]; rfl
theorem deep_read (s : ByteArray) (ks : List Nat) (hl : ks.length <= 40) (h : s.data.toList = fl (dpw ks) ++ [59]) :
  s.size <= 65536 /\ (ans s).2.2 = 0 /\ (∀ t ∈ (ans s).1, WfT t) /\ (ans s).1.map (·.t) = dpw ks ++ [wSemi] /\ ∀ j, j <= (dpw ks).length -> ∃ t, (ans s).1[j]? = some t /\ t.p = T.place s.data.toList (fl ((dpw ks).take j)).length := by
 have hz : s.size <= 65536 := by
  rw [size_of_list, h, List.length_append]
  have := dpw_len ks hl
  simp only [List.length_cons, List.length_nil]
  omega
 exact ⟨hz, deep_toks s hz (dpw ks) wSemi (by rw [h]; rfl) (dpw_gw ks) gw_semi⟩
theorem pans_few (s : ByteArray) (ks : List Nat) (hk : ∀ k ∈ ks, k < 5) (hl : ks.length <= 32) (h : s.data.toList = fl (dpw ks) ++ [59]) : ∃ ds', pans s = .ok (ds', []) /\ smds ds' [dfn ks] = true := by
 obtain ⟨hz, h1, h2, h3, _⟩ := deep_read s ks (by omega) h
 have hc : chk [dfn ks] [] = 0 := by rw [chk_nest ks hk, if_pos hl]
 have hv : ([dfn ks].all vd) = true := by
  have : vd (dfn ks) = true := by
   unfold vd dfn
   simp only [vns_nest ks hk]
   rfl
  simp [this]
 obtain ⟨ds', e1, e2⟩ := read_words (T.place s.data.toList s.size) [dfn ks] [] hc hv (ans s).1 h2 (by rw [h3]; simp [dw_dfn ks hk])
 refine ⟨ds', ?_, ?_⟩
 ·unfold pans
  rw [if_pos h1, e1]
 ·cases ds' with
  | nil => rw [show smds [dfn ks] [] = false from rfl] at e2; cases e2
  | cons d r =>
   rw [smds_cons] at e2 ⊢
   simp only [Bool.and_eq_true] at e2
   cases r with
   | cons a b => rw [show smds [] (a :: b) = false from rfl] at e2; exact absurd e2.2 (by decide)
   | nil =>
    rw [show smds [] [] = true from rfl, Bool.and_true]
    obtain ⟨k, nm, v, body, p⟩ := d
    have e3 := e2.1
    unfold smd dfn at e3 ⊢
    simp only [Bool.and_eq_true, beq_iff_eq, decide_eq_true_eq] at e3 ⊢
    obtain ⟨a1, a2, a3, a4⟩ := e3
    exact ⟨a1.symm, a2.symm, a3.symm, sml_nest ks body a4⟩
theorem pans_many (s : ByteArray) (ks : List Nat) (hk : ∀ k ∈ ks, k < 5) (hl : ks.length <= 40) (h32 : 32 < ks.length) (h : s.data.toList = fl (dpw ks) ++ [59]) :
  pans s = .error ((1, 8 + ((fl ((ks.take 32).map opw)).length : Int)), 109) := by
 obtain ⟨hz, h1, h2, h3, h4⟩ := deep_read s ks hl h
 obtain ⟨t, e1, e2⟩ := read_deep (T.place s.data.toList s.size) (ans s).1 ks (cls ks ++ [wSemi]) hk h32 h2 (by rw [h3]; unfold dpw; simp)
 obtain ⟨t', e3, e4⟩ := h4 34 (by unfold dpw; simp only [List.length_append, List.length_cons, List.length_nil, List.length_map]; omega)
 rw [e1] at e3
 cases e3
 have htk : (dpw ks).take 34 = [wColon, mn] ++ (ks.take 32).map opw := by
  unfold dpw
  rw [List.take_append, List.take_append]
  simp only [List.length_cons, List.length_nil, List.length_map]
  rw [show 34 - (0 + 1 + 1) - ks.length = 0 by omega, List.take_zero, List.append_nil, List.take_of_length_le (by simp)]
  congr 1
  rw [List.map_take]
 have hfl : (fl ((dpw ks).take 34)).length = 7 + (fl ((ks.take 32).map opw)).length := by
  rw [htk, fl_app, List.length_append]
  rfl
 have hle : (fl ((dpw ks).take 34)).length <= s.data.toList.length := by
  have e : dpw ks = (dpw ks).take 34 ++ (dpw ks).drop 34 := (List.take_append_drop 34 _).symm
  rw [h, List.length_append]
  have : (fl (dpw ks)).length = (fl ((dpw ks).take 34)).length + (fl ((dpw ks).drop 34)).length := by
   rw [<- List.length_append, <- fl_app, <- e]
  omega
 have hpl : t.p = (1, 8 + ((fl ((ks.take 32).map opw)).length : Int)) := by
  rw [e4, place_line _ _ hle, hfl]
  ·congr 1; omega
  ·intro k hkk _
   have hm : s.data.toList[k] ∈ s.data.toList := List.getElem_mem hkk
   have hall : ∀ c ∈ s.data.toList, c.toNat ≠ 10 := fun c hc => by
    rw [h] at hc
    rcases List.mem_append.1 hc with hc | hc
    ·exact fl_plain (dpw ks) (dpw_gw ks) c hc
    ·simp at hc; subst hc; decide
   exact hall _ hm
 unfold pans
 rw [if_pos h1, e2, hpl]
end M
end Go.Proofs.YtdnklgceghllaaaGreatDoor
