import Derived.Test.YtoemoiehjdmheaaGreatYMath
import Derived.Test.YtoemoiehjdmheaaGreatPAll
import Derived.Test.YtoemoiehjdmheaaGreatPDo
namespace Go.Proofs.YtoemoiehjdmheaaGreat.Z
open Go.RowKit
open Go.Proofs
open Go.Proofs.YtoemoiehjdmheaaGreat.Y (Nd Df Ps Pl)
set_option linter.unusedVariables false
set_option linter.unusedSimpArgs false
structure Mn where
 op : Int
 v : Int
 w : List (List Mn)
 wp : Ps
 p : Ps
 k : Int
 th : List Mn
 ot : List Mn
 has : Bool
theorem Mn.ind {P : Mn -> Prop} (h : ∀ n : Mn, (∀ m ∈ n.th, P m) -> (∀ m ∈ n.ot, P m) -> (∀ l ∈ n.w, ∀ m ∈ l, P m) -> P n) : ∀ n, P n := by
 intro n
 generalize hs : SizeOf.sizeOf n = s
 induction s using Nat.strongRecOn generalizing n with
 | ind s ih =>
  obtain ⟨op, v, w, wp, p, k, th, ot, has⟩ := n
  simp only [Mn.mk.sizeOf_spec] at hs
  refine h _ (fun m hm => ih (SizeOf.sizeOf m) ?_ m rfl) (fun m hm => ih (SizeOf.sizeOf m) ?_ m rfl) (fun l hl m hm => ih (SizeOf.sizeOf m) ?_ m rfl)
  ·have h1 : SizeOf.sizeOf m < SizeOf.sizeOf th := List.sizeOf_lt_of_mem hm
   omega
  ·have h1 : SizeOf.sizeOf m < SizeOf.sizeOf ot := List.sizeOf_lt_of_mem hm
   omega
  ·have h1 : SizeOf.sizeOf m < SizeOf.sizeOf l := List.sizeOf_lt_of_mem hm
   have h2 : SizeOf.sizeOf l < SizeOf.sizeOf w := List.sizeOf_lt_of_mem hl
   omega
structure Fr where
 t : Nat
 b : List Mn
 n : Nat
structure In where
 op : Int
 v : Int
 w : List (List Mn)
 wp : Ps
 p : Ps
def z2 : Ps := (0, 0)
def en : Mn -> List Mn -> Nat -> List Fr -> List Fr
 | ⟨_, _, _, _, _, k, th, _, _⟩ => fun b n be =>
  if k = 4 then ⟨1, b, n⟩ :: be
  else if k = 8 then ⟨6, b, n⟩ :: be
  else if k = 5 then (match th.map en with | [] => ⟨3, b, n⟩ :: be | f :: _ => f th 0 (⟨3, b, n⟩ :: be))
  else if k = 6 then (match th.map en with | [] => ⟨4, b, n⟩ :: be | f :: _ => f th 0 (⟨4, b, n⟩ :: be))
  else if k = 7 then (match th.map en with | [] => ⟨5, b, n⟩ :: be | f :: _ => f th 0 (⟨5, b, n⟩ :: be))
  else ⟨0, b, n⟩ :: be
def bgn (b : List Mn) (n : Nat) (be : List Fr) : List Fr := match b[n]? with
 | none => be
 | some x => en x b n be
theorem bgn0 (l : List Mn) (be : List Fr) : (match l.map en with | [] => be | f :: _ => f l 0 be) = bgn l 0 be := by
 cases l <;> rfl
theorem en_is (x : Mn) (b : List Mn) (n : Nat) (be : List Fr) : en x b n be =
  if x.k = 4 then ⟨1, b, n⟩ :: be else if x.k = 8 then ⟨6, b, n⟩ :: be else if x.k = 5 then bgn x.th 0 (⟨3, b, n⟩ :: be) else if x.k = 6 then bgn x.th 0 (⟨4, b, n⟩ :: be) else if x.k = 7 then bgn x.th 0 (⟨5, b, n⟩ :: be) else ⟨0, b, n⟩ :: be := by
 obtain ⟨op, v, w, wp, p, k, th, ot, has⟩ := x
 rw [en]
 simp only [<- bgn0]
theorem bgn_end (b : List Mn) (n : Nat) (be : List Fr) (h : b.length <= n) : bgn b n be = be := by
 unfold bgn; rw [List.getElem?_eq_none h]
theorem bgn_at (b : List Mn) (n : Nat) (be : List Fr) (x : Mn) (h : b[n]? = some x) : bgn b n be = en x b n be := by
 unfold bgn; rw [h]
def zN : Mn := ⟨0, 0, [], z2, z2, 0, [], [], false⟩
def Fr.x (f : Fr) : Mn := (f.b[f.n]?).getD zN
def lkf (f : Fr) : In := match f.t with
 | 0 => ⟨f.x.op, f.x.v, f.x.w, f.x.wp, f.x.p⟩
 | 1 => ⟨5, 0, [], z2, f.x.p⟩
 | 2 => ⟨4, 0, [], z2, f.x.p⟩
 | 3 => ⟨5, 0, [], z2, f.x.p⟩
 | 4 => ⟨5, 0, [], z2, f.x.p⟩
 | 5 => ⟨4, 0, [], z2, f.x.p⟩
 | 6 => ⟨6, 0, [], z2, f.x.p⟩
 | _ => ⟨7, 0, [], z2, f.x.p⟩
def lk (l : List Fr) (e : Ps) : In := match l with
 | [] => ⟨8, 0, [], z2, e⟩
 | f :: _ => lkf f
def onf (f : Fr) (r : List Fr) (ld : Bool) : List Fr := match f.t with
 | 0 => bgn f.b (f.n + 1) r
 | 1 => if f.x.has = false then (if ld = true then bgn f.b (f.n + 1) r else bgn f.x.th 0 (bgn f.b (f.n + 1) r)) else if ld = true then bgn f.x.ot 0 (bgn f.b (f.n + 1) r) else bgn f.x.th 0 (⟨2, f.b, f.n⟩ :: r)
 | 2 => bgn f.b (f.n + 1) r
 | 3 => if ld = true then bgn f.b f.n r else bgn f.b (f.n + 1) r
 | 4 => if ld = true then bgn f.b (f.n + 1) r else bgn f.x.ot 0 (⟨5, f.b, f.n⟩ :: r)
 | 5 => bgn f.b f.n r
 | 6 => bgn f.x.th 0 (⟨7, f.b, f.n⟩ :: r)
 | _ => if ld = true then bgn f.x.th 0 (⟨7, f.b, f.n⟩ :: r) else bgn f.b (f.n + 1) r
def on (l : List Fr) (ld : Bool) : List Fr := match l with
 | [] => []
 | f :: r => onf f r ld
structure Nm where
 op : Int
 v : Int
 w : List (List Mn)
 wp : Ps
abbrev Ev := List (ByteArray × Nm)
def lkn : Ev -> ByteArray -> Option Nm
 | [], _ => none
 | (s, v) :: r, x => if s = x then some v else lkn r x
def upn : Ev -> ByteArray -> Nm -> Ev
 | [], s, v => [(s, v)]
 | (x, y) :: r, s, v => if x = s then (x, v) :: r else (x, y) :: upn r s v
def ins (E : Ev) (k op v : Int) (nm : ByteArray) : Nm :=
 if k = 2 then ⟨3, v, [], z2⟩ else if k = 3 then (lkn E nm).getD ⟨0, 0, [], z2⟩ else if k = 9 then ⟨8, 0, [], z2⟩ else ⟨op, 0, [], z2⟩
def rs (E : Ev) : Nd -> Mn
 | ⟨k, op, v, nm, th, el, has, p⟩ => ⟨(ins E k op v nm).op, (ins E k op v nm).v, (ins E k op v nm).w, (ins E k op v nm).wp, p, k, th.map (rs E), el.map (rs E), has⟩
theorem rs_is (E : Ev) (n : Nd) : rs E n = ⟨(ins E n.k n.op n.v n.nm).op, (ins E n.k n.op n.v n.nm).v, (ins E n.k n.op n.v n.nm).w, (ins E n.k n.op n.v n.nm).wp, n.p, n.k, n.th.map (rs E), n.el.map (rs E), n.has⟩ := by
 cases n; rw [rs]
def nme (E : Ev) (d : Df) (q : Pl) : Ev :=
 if d.k = 1 then upn E d.nm ⟨1, 0, [d.body.map (rs E)], d.p⟩ else if d.k = 2 then upn E d.nm ⟨2, d.v, [], z2⟩ else if d.k = 3 then upn E d.nm ⟨2, q.ram, [], z2⟩ else E
structure Pc where
  fr : List Fr
  e : Ps
structure VS where
  st : Int
  fa : Int
  D : List Int
  R : List (Int × Int)
  m : M.MS
  o : List Pc
  c : Pc
def look (v : VS) : In := lk v.c.fr v.c.e
def onc (c : Pc) (ld : Bool) : Pc := ⟨on c.fr ld, c.e⟩
structure TN where
  b : Bool
  f : Int
  v : VS
def turn (v : VS) : TN := match v.R.reverse with
  | [] => ⟨false, 3, v⟩
  | (k, i) :: t => if k ≠ 3 then ⟨false, 5, v⟩ else match t with
    | [] => ⟨false, 3, v⟩
    | (k2, l) :: t2 => if k2 ≠ 2 then ⟨false, 5, v⟩ else if (i + 1) % 65536 ≠ l then ⟨true, 0, { v with R := t.reverse ++ [(3, (i + 1) % 65536)] }⟩ else ⟨false, 0, { v with R := t2.reverse }⟩
def pl (op : Int) (v : VS) : TN := ⟨false, P.fl op v.D v.R, if P.fl op v.D v.R = 0 then { v with D := P.nD op v.D v.R v.m, R := P.nR op v.D v.R, m := P.nM op v.D v.m } else v⟩
def dn (op x : Int) (v : VS) : TN := match op with
  | 2 => if 256 < v.D.length + 1 then ⟨false, 2, v⟩ else ⟨false, 0, { v with D := v.D ++ [x] }⟩
  | 3 => if 256 < v.D.length + 1 then ⟨false, 2, v⟩ else ⟨false, 0, { v with D := v.D ++ [x] }⟩
  | 4 => ⟨true, 0, v⟩
  | 5 => match v.D.reverse with
    | [] => ⟨false, 1, v⟩
    | a :: t => ⟨a == 0, 0, { v with D := t.reverse }⟩
  | 7 => turn v
  | 10 => ⟨false, 0, v⟩
  | 11 => ⟨false, 0, { v with st := 2 }⟩
  | op => pl op v
def enter (w : List (List Mn)) (wp : Ps) (v : VS) : Int × VS := if 128 < v.R.length + 1 then (4, v) else (0, { v with R := v.R ++ [(1, 0)], o := v.o ++ [onc v.c false], c := ⟨bgn (w.headD []) 0 [], wp⟩ })
def leave (v : VS) : Int × VS := match v.R.reverse with
  | [] => (0, { v with st := 2 })
  | (k, a) :: t => if k = 1 then (0, { v with R := t.reverse, o := v.o.take (v.o.length - 1), c := (v.o[v.o.length - 1]?).getD v.c }) else (5, v)
def doo (i : In) (v : VS) : Int × VS :=
  if i.op = 1 then enter i.w i.wp v else if i.op = 8 then leave v
  else ((dn i.op i.v v).f, if (dn i.op i.v v).f = 0 then { (dn i.op i.v v).v with c := onc (dn i.op i.v v).v.c (dn i.op i.v v).b } else v)
def fail (f : Int) (v : VS) : VS := { v with st := 3, fa := f }
def cyc (n : Int) (v : VS) : VS := { v with m := { v.m with cyc := n } }
def cost (op : Int) : Int := P.rc op.toNat
structure WK where
  v : VS
  steps : Int
  spent : Int
def wk : Nat -> Int -> VS -> Int -> Int -> WK
  | 0, B, v, n, s => ⟨v, n, s⟩
  | k + 1, B, v, n, s =>
    if v.st = 1 /\ s < B then
      (if B - s < cost (look v).op then ⟨v, n, s⟩
       else if (doo (look v) (cyc s v)).1 = 0 then
        (if (look v).op = 10 then ⟨(doo (look v) (cyc s v)).2, n + 1, s + cost (look v).op⟩ else wk k B (doo (look v) (cyc s v)).2 (n + 1) (s + cost (look v).op))
       else ⟨fail (doo (look v) (cyc s v)).1 (cyc s v), n, s⟩)
    else ⟨v, n, s⟩
def frame (v : VS) (pad : Int) (B : Int) : WK := wk B.toNat B { v with m := M.bg v.m pad } 0 0
def okI (op : Int) (w : List (List Mn)) : Bool := decide (1 <= op) && decide (op <= 63) && (op != 1 || w.length == 1)
def sng (k : Int) : Bool := !(k == 4 || k == 5 || k == 6 || k == 7 || k == 8)
def okS (R : Mn -> Prop) (m : Mn) : Prop := (sng m.k = true -> okI m.op m.w = true /\ C.C m.v) /\ (∀ x ∈ m.th, R x) /\ (∀ x ∈ m.ot, R x) /\ ∀ l ∈ m.w, ∀ x ∈ l, R x
theorem okS.mono {R R' : Mn -> Prop} {m : Mn} (h : okS R m) (k : ∀ x, R x -> R' x) : okS R' m := ⟨h.1, fun x hx => k x (h.2.1 x hx), fun x hx => k x (h.2.2.1 x hx), fun l hl x hx => k x (h.2.2.2 l hl x hx)⟩
def okM (m : Mn) : Prop := ∀ R : Mn -> Prop, (∀ m, okS R m -> R m) -> R m
theorem okM.shut {m : Mn} (h : okS okM m) : okM m := fun R hR => hR m (h.mono fun x hx => hx R hR)
def okL (l : List Mn) : Prop := ∀ m ∈ l, okM m
theorem okM_parts {m : Mn} (h : okM m) : (sng m.k = true -> okI m.op m.w = true /\ C.C m.v) /\ okL m.th /\ okL m.ot /\ ∀ l ∈ m.w, okL l := h (fun m => okS okM m) fun m hm => hm.mono fun x hx => okM.shut hx
def okF (f : Fr) : Prop := okL f.b /\ f.n < f.b.length /\ f.t <= 7 /\ (f.t = 0 -> sng f.x.k = true)
def okP (l : List Fr) : Prop := ∀ f ∈ l, okF f
theorem okL_at {l : List Mn} (h : okL l) {i : Nat} {x : Mn} (hx : l[i]? = some x) : okM x := h x (List.mem_of_getElem? hx)
theorem Fr.x_at (f : Fr) (h : f.n < f.b.length) : f.b[f.n]? = some f.x := by
  unfold Fr.x; rw [List.getElem?_eq_getElem h]; rfl
theorem okF_x {f : Fr} (h : okF f) : okM f.x := okL_at h.1 (f.x_at h.2.1)
def EnOk (x : Mn) : Prop := ∀ (b : List Mn) (n : Nat) (be : List Fr), b[n]? = some x -> okL b -> okP be -> okP (en x b n be)
theorem okP_cons {f : Fr} {l : List Fr} (h : okF f) (k : okP l) : okP (f :: l) := fun g hg => by
  rcases List.mem_cons.1 hg with rfl | hg
  · exact h
  · exact k g hg
theorem bgn_ok (l : List Mn) (hl : ∀ m ∈ l, EnOk m) (n : Nat) (be : List Fr) (h : okL l) (k : okP be) : okP (bgn l n be) := by
  unfold bgn
  cases hx : l[n]? with
  | none => exact k
  | some x => exact hl x (List.mem_of_getElem? hx) l n be hx h k
theorem okF_mk {b : List Mn} {n : Nat} {x : Mn} (hx : b[n]? = some x) (h : okL b) (t : Nat) (ht : t <= 7) (h0 : t = 0 -> sng x.k = true) : okF ⟨t, b, n⟩ :=
  ⟨h, (List.getElem?_eq_some_iff.1 hx).1, ht, fun e => by have : Fr.x ⟨t, b, n⟩ = x := by unfold Fr.x; simp only; rw [hx]; rfl
                                                          rw [this]; exact h0 e⟩
theorem en_ok (x : Mn) : EnOk x := Mn.ind (P := EnOk) (fun x hth _ _ b n be hx h k => by
  have hp := okM_parts (okL_at h hx)
  rw [en_is]
  by_cases k4 : x.k = 4
  · rw [if_pos k4]; exact okP_cons (okF_mk hx h 1 (by decide) (fun e => by cases e)) k
  rw [if_neg k4]
  by_cases k8 : x.k = 8
  · rw [if_pos k8]; exact okP_cons (okF_mk hx h 6 (by decide) (fun e => by cases e)) k
  rw [if_neg k8]
  by_cases k5 : x.k = 5
  · rw [if_pos k5]; exact bgn_ok x.th hth 0 _ hp.2.1 (okP_cons (okF_mk hx h 3 (by decide) (fun e => by cases e)) k)
  rw [if_neg k5]
  by_cases k6 : x.k = 6
  · rw [if_pos k6]; exact bgn_ok x.th hth 0 _ hp.2.1 (okP_cons (okF_mk hx h 4 (by decide) (fun e => by cases e)) k)
  rw [if_neg k6]
  by_cases k7 : x.k = 7
  · rw [if_pos k7]; exact bgn_ok x.th hth 0 _ hp.2.1 (okP_cons (okF_mk hx h 5 (by decide) (fun e => by cases e)) k)
  rw [if_neg k7]
  exact okP_cons (okF_mk hx h 0 (by decide) (fun _ => by unfold sng; simp [k4, k5, k6, k7, k8])) k) x
theorem bgn_okP (l : List Mn) (n : Nat) (be : List Fr) (h : okL l) (k : okP be) : okP (bgn l n be) := bgn_ok l (fun m _ => en_ok m) n be h k
theorem on_ok (l : List Fr) (ld : Bool) (h : okP l) : okP (on l ld) := by
  cases l with
  | nil => exact fun f hf => by cases hf
  | cons f r =>
    have hf := h f (by simp)
    have hr : okP r := fun g hg => h g (by simp [hg])
    have hx := okM_parts (okF_x hf)
    have hp : ∀ n, okP (bgn f.b n r) := fun n => bgn_okP f.b n r hf.1 hr
    have hq : ∀ (t : Nat), t <= 7 -> 1 <= t -> okP (⟨t, f.b, f.n⟩ :: r) := fun t h1 h2 => okP_cons ⟨hf.1, hf.2.1, h1, fun e => by simp only at e; omega⟩ hr
    show okP (onf f r ld)
    unfold onf
    split
    · exact hp _
    · split
      · split
        · exact hp _
        · exact bgn_okP _ _ _ hx.2.1 (hp _)
      · split
        · exact bgn_okP _ _ _ hx.2.2.1 (hp _)
        · exact bgn_okP _ _ _ hx.2.1 (hq 2 (by decide) (by decide))
    · exact hp _
    · split <;> exact hp _
    · split
      · exact hp _
      · exact bgn_okP _ _ _ hx.2.2.1 (hq 5 (by decide) (by decide))
    · exact hp _
    · exact bgn_okP _ _ _ hx.2.1 (hq 7 (by decide) (by decide))
    · split
      · exact bgn_okP _ _ _ hx.2.1 (hq 7 (by decide) (by decide))
      · exact hp _
theorem lk_ok (l : List Fr) (e : Ps) (h : okP l) : (okI (lk l e).op (lk l e).w = true /\ C.C (lk l e).v) /\ ∀ b ∈ (lk l e).w, okL b := by
  have z : C.C 0 := ⟨by omega, by omega⟩
  cases l with
  | nil => exact ⟨⟨rfl, z⟩, fun b hb => by cases hb⟩
  | cons f r =>
    have hf := h f (by simp)
    have hx := okM_parts (okF_x hf)
    show (okI (lkf f).op (lkf f).w = true /\ _) /\ _
    have e0 : lk (f :: r) e = lkf f := rfl
    rw [e0]
    obtain ⟨t, b, n⟩ := f
    by_cases h0 : t = 0
    · subst h0
      exact ⟨hx.1 (hf.2.2.2 rfl), hx.2.2.2⟩
    · have : t = 1 \/ t = 2 \/ t = 3 \/ t = 4 \/ t = 5 \/ t = 6 \/ t = 7 := by have := hf.2.2.1; simp only at this; omega
      rcases this with rfl | rfl | rfl | rfl | rfl | rfl | rfl <;> exact ⟨⟨rfl, z⟩, fun b hb => by cases hb⟩
def calls (R : List (Int × Int)) : Nat := (R.filter fun q => q.1 == 1).length
theorem calls_app (A B : List (Int × Int)) : calls (A ++ B) = calls A + calls B := by unfold calls; rw [List.filter_append, List.length_append]
structure Wf (v : VS) : Prop where
  d : ∀ x ∈ v.D, C.C x
  r : ∀ q ∈ v.R, C.C q.2
  c : okP v.c.fr
  o : ∀ p ∈ v.o, okP p.fr
  l : v.R.length <= 128
end Go.Proofs.YtoemoiehjdmheaaGreat.Z
