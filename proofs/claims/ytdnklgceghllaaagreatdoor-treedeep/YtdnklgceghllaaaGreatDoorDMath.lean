import Derived.Test.YtdnklgceghllaaaGreatDoorKScan
import Derived.Test.YtdnklgceghllaaaGreatDoorTMath
import Derived.Test.YtdnklgceghllaaaGreatDoorRMath
namespace Go.Proofs.YtdnklgceghllaaaGreatDoor.D
open Go.Proofs.YtdnklgceghllaaaGreatDoor.K (Tk)
open Go.Proofs.YtdnklgceghllaaaGreatDoor.Y (Nd Df Ps e0)
set_option linter.unusedVariables false
def lit (v : Int) (p : Ps) : Nd := ⟨2, 0, v, e0, [], [], false, p⟩
def prm (op : Int) (p : Ps) : Nd := ⟨1, op, 0, e0, [], [], false, p⟩
def cll (nm : ByteArray) (p : Ps) : Nd := ⟨3, 0, 0, nm, [], [], false, p⟩
def ext (p : Ps) : Nd := ⟨9, 0, 0, e0, [], [], false, p⟩
def setK (t : Nd) (k : Int) : Nd := { t with k := k }
def setHas (t : Nd) : Nd := { t with has := true }
def put (t n : Nd) : Nd := if t.has || t.k == 6 then { t with el := t.el ++ [n] } else { t with th := t.th ++ [n] }
structure Rd where
 rest : List Tk
 defs : List Df
 banks : List (Int × List UInt8)
 at_ : Tk
 body : List Nd
 opn : List Nd
 ended : Bool
abbrev Er := Ps × Int
abbrev Re := Except Er Rd
def isW (s : ByteArray) (l : List UInt8) : Bool := s.data.toList == l
def known (r : Rd) (s : ByteArray) : Bool := (r.defs.map (·.nm)).any fun x => decide (x = s)
def next (e : Ps) (r : Rd) : Re :=
 match r.rest with
 | [] => .error (e, 105)
 | t :: ts => .ok { r with at_ := t, rest := ts }
def must (b : Bool) (t : Tk) (c : Int) : Except Er Unit := if b then .ok () else .error (t.p, c)
def add (n : Nd) (r : Rd) : Rd :=
 match r.opn.getLast? with
 | none => { r with body := r.body ++ [n] }
 | some t => { r with opn := r.opn.dropLast ++ [put t n] }
def standIn (k : Int) (r : Rd) : Bool :=
 match r.opn.getLast? with
 | none => false
 | some t => t.k == k
def begin_ (k : Int) (r : Rd) : Re := do
 must (decide (r.opn.length < 32)) r.at_ 109
 .ok { r with opn := r.opn ++ [⟨k, 0, 0, e0, [], [], false, r.at_.p⟩] }
def close (k b : Int) (r : Rd) : Re := do
 must (standIn k r) r.at_ 104
 match r.opn.getLast? with
 | none => .ok r
 | some t => .ok (add (setK t b) { r with opn := r.opn.dropLast })
def turnElse (r : Rd) : Re := do
 must (standIn 4 r) r.at_ 104
 match r.opn.getLast? with
 | none => .ok r
 | some t => do
  must (!t.has) r.at_ 104
  .ok { r with opn := r.opn.dropLast ++ [setHas t] }
def turnWhile (r : Rd) : Re := do
 must (standIn 0 r) r.at_ 104
 match r.opn.getLast? with
 | none => .ok r
 | some t => .ok { r with opn := r.opn.dropLast ++ [setK t 6] }
def leave (r : Rd) : Re := do
 must (!(r.opn.any fun n => n.k == 8)) r.at_ 108
 .ok (add (ext r.at_.p) r)
def finish (r : Rd) : Re := do
 must (r.opn.length == 0) r.at_ 104
 .ok { r with ended := true }
def ctl (s : ByteArray) : Option (Rd -> Re) :=
 if isW s [105, 102] then some (begin_ 4)
 else if isW s [101, 108, 115, 101] then some turnElse
 else if isW s [116, 104, 101, 110] then some (close 4 4)
 else if isW s [98, 101, 103, 105, 110] then some (begin_ 0)
 else if isW s [117, 110, 116, 105, 108] then some (close 0 5)
 else if isW s [97, 103, 97, 105, 110] then some (close 0 7)
 else if isW s [119, 104, 105, 108, 101] then some turnWhile
 else if isW s [114, 101, 112, 101, 97, 116] then some (close 6 6)
 else if isW s [100, 111] then some (begin_ 8)
 else if isW s [108, 111, 111, 112] then some (close 8 8)
 else if isW s [101, 120, 105, 116] then some leave
 else if isW s [59] then some finish
 else none
section
variable (pr : ByteArray -> Option Int) (e : Ps)
def node (r : Rd) : Re :=
 if r.at_.k == 2 then .ok (add (lit r.at_.v r.at_.p) r)
 else match ctl r.at_.t with
 | some f => f r
 | none =>
  if known r r.at_.t then .ok (add (cll r.at_.t r.at_.p) r)
  else match pr r.at_.t with
  | some op => .ok (add (prm op r.at_.p) r)
  | none => .error (r.at_.p, if R.isRes r.at_.t then 104 else 103)
def bodyN : Nat -> Rd -> Re
 | 0, r => .ok r
 | n + 1, r => if r.ended then .ok r else do
  let r ← next e r
  let r ← node pr r
  bodyN n r
def name (r : Rd) : Re := do
 let r ← next e r
 must (R.isNm r.at_.t) r.at_ 101
 must (!known r r.at_.t) r.at_ 102
 .ok r
def define (k : Int) (t : Tk) (v : Int) (body : List Nd) (r : Rd) : Rd := { r with defs := r.defs ++ [⟨k, t.t, v, body, t.p⟩] }
def word (r : Rd) : Re := do
 let r ← name e r
 let t := r.at_
 let r ← bodyN pr e (r.rest.length + 1) { r with body := [], opn := [], ended := false }
 .ok (define 1 t 0 r.body r)
def dataN : Nat -> List UInt8 -> Rd -> Except Er (List UInt8 × Rd)
 | 0, d, r => .ok (d, r)
 | n + 1, d, r => do
  let r ← next e r
  if isW r.at_.t [125] then .ok (d, r) else do
  must (r.at_.k == 2 && decide (r.at_.v <= 255) && decide (d.length < 16384)) r.at_ 106
  dataN n (d ++ [UInt8.ofNat r.at_.v.toNat]) r
def bank (num : Tk) (r : Rd) : Re := do
 must (decide (num.v < 16)) num 106
 must (!(r.banks.any fun b => b.1 == num.v)) num 102
 let r ← next e r
 must (isW r.at_.t [123]) r.at_ 104
 let (d, r) ← dataN e (r.rest.length + 1) [] r
 .ok { r with banks := r.banks ++ [(num.v, d)] }
def numbered (num : Tk) (r : Rd) : Re := do
 let r ← next e r
 if isW r.at_.t [99, 111, 110, 115, 116, 97, 110, 116] then do
  let r ← name e r
  .ok (define 2 r.at_ num.v [] r)
 else if isW r.at_.t [98, 117, 102, 102, 101, 114] then do
  must (decide (num.v <= 16384)) num 106
  let r ← name e r
  .ok (define 3 r.at_ num.v [] r)
 else if isW r.at_.t [98, 97, 110, 107] then bank e num r
 else .error (r.at_.p, 100)
def item (r : Rd) : Re := do
 let r ← next e r
 if r.at_.k == 2 then numbered e r.at_ r
 else if isW r.at_.t [58] then word pr e r
 else if isW r.at_.t [118, 97, 114, 105, 97, 98, 108, 101] then do
  let r ← name e r
  .ok (define 3 r.at_ 2 [] r)
 else .error (r.at_.p, 100)
def itemsN : Nat -> Rd -> Re
 | 0, r => .ok r
 | n + 1, r => if r.rest.isEmpty then .ok r else do
  let r ← item pr e r
  itemsN n r
def read (ts : List Tk) : Except Er (List Df × List (Int × List UInt8)) := do
 let r ← itemsN pr e (ts.length + 1) ⟨ts, [], [], ⟨0, e0, 0, (0, 0)⟩, [], [], false⟩
 if r.defs.any R.isMain then .ok (r.defs, r.banks.mergeSort fun a b => decide (a.1 <= b.1)) else .error (e, 107)
end
open Go.RowKit
open Go.Proofs
open Go.Proofs.YtdnklgceghllaaaGreatDoor.Y (Nd Df Ps ndc NV NA N1 ZV)
set_option linter.unusedVariables false
set_option linter.unusedSimpArgs false
set_option maxRecDepth 100000
abbrev Ys := List (Value × Value)
def ncs : List Nd -> Ys -> List Value
 | n :: l, y :: ys => ndc n y.1 y.2 ++ ncs l ys
 | _, _ => []
theorem ncs_len : ∀ (l : List Nd) (ys : Ys), ys.length = l.length -> (ncs l ys).length = l.length * 9
 | [], [], _ => rfl
 | n :: l, y :: ys, h => by
  have := ncs_len l ys (by simpa using h)
  rw [ncs, List.length_append, this, List.length_cons]
  simp only [ndc, List.length_cons, List.length_nil]
  omega
theorem ncs_app : ∀ (l : List Nd) (ys : Ys) (n : Nd) (y : Value × Value), ys.length = l.length -> ncs (l ++ [n]) (ys ++ [y]) = ncs l ys ++ ndc n y.1 y.2
 | [], [], n, y, _ => by simp [ncs]
 | m :: l, z :: ys, n, y, h => by
  rw [List.cons_append, List.cons_append, ncs, ncs, ncs_app l ys n y (by simpa using h), List.append_assoc]
theorem ncs_at : ∀ (l : List Nd) (ys : Ys) (i : Nat) (n : Nd) (y : Value × Value), l[i]? = some n -> ys[i]? = some y -> ∀ (j : Nat) (x : Value), (ndc n y.1 y.2)[j]? = some x -> (ncs l ys)[i * 9 + j]? = some x
 | m :: l, z :: ys, 0, n, y, hl, hy, j, x, hx => by
  simp only [List.getElem?_cons_zero, Option.some.injEq] at hl hy
  subst hl hy
  rw [ncs, List.getElem?_append_left (by rw [Nat.zero_mul, Nat.zero_add]; exact (List.getElem?_eq_some_iff.1 hx).1), Nat.zero_mul, Nat.zero_add]
  exact hx
 | m :: l, z :: ys, i + 1, n, y, hl, hy, j, x, hx => by
  have h9 : (ndc m z.1 z.2).length = 9 := rfl
  have := ncs_at l ys i n y (by simpa using hl) (by simpa using hy) j x hx
  rw [ncs, List.getElem?_append_right (by rw [h9]; omega), h9, show (i + 1) * 9 + j - 9 = i * 9 + j by omega]
  exact this
 | [], _, _, _, _, hl, _, _, _, _ => by simp at hl
 | _ :: _, [], _, _, _, _, hy, _, _, _ => by simp at hy
theorem ncs_set : ∀ (l : List Nd) (ys : Ys) (i j : Nat) (n n' : Nd) (y y' : Value × Value) (x : Value), l[i]? = some n -> ys[i]? = some y -> j < 9 -> (ndc n y.1 y.2).set j x = ndc n' y'.1 y'.2 -> (ncs l ys).set (i * 9 + j) x = ncs (l.set i n') (ys.set i y')
 | m :: l, z :: ys, 0, j, n, n', y, y', x, hl, hy, hj, hx => by
  simp only [List.getElem?_cons_zero, Option.some.injEq] at hl hy
  subst hl hy
  have h9 : (ndc m z.1 z.2).length = 9 := rfl
  rw [List.set_cons_zero, List.set_cons_zero, ncs, ncs, List.set_append_left _ _ (by rw [h9]; omega), Nat.zero_mul, Nat.zero_add, hx]
 | m :: l, z :: ys, i + 1, j, n, n', y, y', x, hl, hy, hj, hx => by
  have h9 : (ndc m z.1 z.2).length = 9 := rfl
  rw [List.set_cons_succ, List.set_cons_succ, ncs, ncs, List.set_append_right _ _ (by rw [h9]; omega), h9, show (i + 1) * 9 + j - 9 = i * 9 + j by omega, ncs_set l ys i j n n' y y' x (by simpa using hl) (by simpa using hy) hj hx]
 | [], _, _, _, _, _, _, _, _, hl, _, _, _ => by simp at hl
 | _ :: _, [], _, _, _, _, _, _, _, _, hy, _, _ => by simp at hy
theorem ncs_take : ∀ (l : List Nd) (ys : Ys) (k : Nat), k <= l.length -> ys.length = l.length -> (ncs l ys).take (k * 9) = ncs (l.take k) (ys.take k)
 | l, ys, 0, _, _ => by simp [ncs]
 | m :: l, z :: ys, k + 1, hk, h => by
  have h9 : (ndc m z.1 z.2).length = 9 := rfl
  rw [List.take_succ_cons, List.take_succ_cons, ncs, ncs, List.take_append, h9, show (k + 1) * 9 - 9 = k * 9 by omega, ncs_take l ys k (by simpa using hk) (by simpa using h), List.take_of_length_le (by rw [h9]; omega)]
 | [], _, k + 1, hk, _ => by simp at hk
 | _ :: _, [], _, _, h => by simp at h
abbrev ND : TypeId := 43
structure LN (W : World) (c : Nat -> Nat) (k : Nat) (v : Value) (l : List Nd) (ys : Ys) : Prop where
 row : W.ownsRow 0 ND 9 v l.length (ncs l ys)
 len : ys.length = l.length
 col : ∀ b, v.ownBlock = some b -> c b = k
def LO (W : World) (c : Nat -> Nat) (k : Nat) (v : Value) (l : List Nd) : Prop :=
 ∃ ys, LN W c k v l ys /\ ∀ (i : Nat) (n : Nd) (y : Value × Value), l[i]? = some n -> ys[i]? = some y -> NV W (fun b => c b = 1) y.1 n.th /\ NV W (fun b => c b = 1) y.2 n.el
theorem LN.move {W W' : World} {c c' : Nat -> Nat} {k : Nat} {v : Value} {l : List Nd} {ys : Ys} (h : LN W c k v l ys) (m : ∀ b, c b = k -> W'.heap[b]? = W.heap[b]? /\ c' b = k) : LN W' c' k v l ys :=
 ⟨S.own_kept h.row (fun g e _ => (m g (h.col g e)).1), h.len, fun b e => (m b (h.col b e)).2⟩
theorem LO.move {W W' : World} {c c' : Nat -> Nat} {k : Nat} {v : Value} {l : List Nd} (h : LO W c k v l) (m : ∀ b, c b = k -> W'.heap[b]? = W.heap[b]? /\ c' b = k) (m1 : ∀ b, c b = 1 -> W'.heap[b]? = W.heap[b]? /\ c' b = 1) : LO W' c' k v l := by
 obtain ⟨ys, h1, h2⟩ := h
 refine ⟨ys, h1.move m, fun i n y hl hy => ?_⟩
 obtain ⟨a, b⟩ := h2 i n y hl hy
 exact ⟨a.kept (fun i hi => (m1 i hi).1) (fun i hi => (m1 i hi).2), b.kept (fun i hi => (m1 i hi).1) (fun i hi => (m1 i hi).2)⟩
theorem LO.nil (W : World) (c : Nat -> Nat) (k : Nat) : LO W c k (.slice none 0 0) [] :=
 ⟨[], ⟨World.ownsRow_nil _ _ _ _, rfl, fun b e => by simp [Value.ownBlock] at e⟩, fun i n y hl => by simp at hl⟩
theorem LN.val {W : World} {c : Nat -> Nat} {k : Nat} {v : Value} {l : List Nd} {ys : Ys} (h : LN W c k v l ys) : (v = .slice none 0 0 /\ l = []) \/ ∃ g cap, v = .slice (some ⟨g, 0, none⟩) l.length cap /\ c g = k /\ ∃ cur, W.heap[g]? = some (.cells cur ND (0, 0)) := by
 rcases h.row.2 with ⟨e, e0⟩ | ⟨g, cap, cur, e, _, hg, _⟩
 ·exact .inl ⟨e, List.eq_nil_of_length_eq_zero e0⟩
 ·exact .inr ⟨g, cap, e, h.col g (by rw [e]; rfl), cur, hg⟩
theorem LN.cell {W : World} {c : Nat -> Nat} {k : Nat} {g n cap : Nat} {l : List Nd} {ys : Ys} (h : LN W c k (.slice (some ⟨g, 0, none⟩) n cap) l ys) (i : Nat) (m : Nd) (y : Value × Value) (hl : l[i]? = some m) (hy : ys[i]? = some y) (j : Nat) (x : Value) (hx : (ndc m y.1 y.2)[j]? = some x) : W.cell? ⟨g, i * 9 + j, none⟩ = some x := by
 have hn := ncs_at l ys i m y hl hy j x hx
 rcases h.row.2 with ⟨e, _⟩ | ⟨g', cap', cur, e, _, hg, hcap, hml, hcur, htk⟩
 ·cases e
 ·simp only [Value.slice.injEq, Option.some.injEq, Addr.mk.injEq] at e
  obtain ⟨⟨rfl, _⟩, _⟩ := e
  rw [<- htk] at hn
  rw [List.getElem?_take] at hn
  split at hn
  ·simp only [World.cell?, hg]
   simpa using hn
  ·cases hn
structure Bk (k : Nat) (r : Rd) : Prop where
 body : r.body.length <= k
 opn : r.opn.length <= k
 lists : ∀ n ∈ r.opn, n.th.length <= k /\ n.el.length <= k
theorem Bk.up {k : Nat} {r : Rd} (h : Bk k r) : Bk (k + 1) r := ⟨by have := h.body; omega, by have := h.opn; omega, fun n hn => by have := h.lists n hn; omega⟩
structure Kp (k : Nat) (r r' : Rd) : Prop where
 rest : r'.rest = r.rest
 defs : r'.defs = r.defs
 banks : r'.banks = r.banks
 bk : Bk (k + 1) r'
theorem mem_dropLast {α : Type} {l : List α} {x : α} (h : x ∈ l.dropLast) : x ∈ l := List.dropLast_subset l h
theorem put_len (t n : Nd) (k : Nat) (h : t.th.length <= k /\ t.el.length <= k) : (put t n).th.length <= k + 1 /\ (put t n).el.length <= k + 1 := by
 unfold put
 split
 ·simp only [List.length_append, List.length_cons, List.length_nil]; omega
 ·simp only [List.length_append, List.length_cons, List.length_nil]; omega
theorem add_kp (n : Nd) (r : Rd) (k : Nat) (hb : Bk k r) : Kp k r (add n r) := by
 unfold add
 cases hl : r.opn.getLast? with
 | none => exact ⟨rfl, rfl, rfl, ⟨by have := hb.body; simp only [List.length_append, List.length_cons, List.length_nil]; omega, hb.up.opn, hb.up.lists⟩⟩
 | some t =>
  have hm : t ∈ r.opn := List.mem_of_getLast? hl
  have hp : 0 < r.opn.length := List.length_pos_of_mem hm
  refine ⟨rfl, rfl, rfl, ⟨hb.up.body, ?_, fun x hx => ?_⟩⟩
  ·have := hb.opn; simp only [List.length_append, List.length_dropLast, List.length_cons, List.length_nil]; omega
  ·rcases List.mem_append.1 hx with hx | hx
   ·exact hb.up.lists x (mem_dropLast hx)
   ·rw [List.mem_singleton.1 hx]
    exact put_len t n k (hb.lists t hm)
theorem must_ok {b : Bool} {t : Tk} {c : Int} {α : Type} {f : Unit -> Except Er α} {x : α} (h : (must b t c >>= f) = .ok x) : b = true /\ f () = .ok x := by
 cases b with
 | true => exact ⟨rfl, h⟩
 | false => cases h
theorem begin_kp (c : Int) (r r' : Rd) (k : Nat) (hb : Bk k r) (h : begin_ c r = .ok r') : Kp k r r' := by
 obtain ⟨h1, h2⟩ := must_ok h
 obtain rfl := Except.ok.inj h2
 refine ⟨rfl, rfl, rfl, ⟨hb.up.body, by have := hb.opn; simp only [List.length_append, List.length_cons, List.length_nil]; omega, fun x hx => ?_⟩⟩
 rcases List.mem_append.1 hx with hx | hx
 ·exact hb.up.lists x hx
 ·rw [List.mem_singleton.1 hx]
  exact ⟨Nat.zero_le _, Nat.zero_le _⟩
theorem setLast_kp (r : Rd) (t t' : Nd) (k : Nat) (hb : Bk k r) (hl : r.opn.getLast? = some t) (h1 : t'.th = t.th) (h2 : t'.el = t.el) : Kp k r { r with opn := r.opn.dropLast ++ [t'] } := by
 have hm : t ∈ r.opn := List.mem_of_getLast? hl
 have hp : 0 < r.opn.length := List.length_pos_of_mem hm
 refine ⟨rfl, rfl, rfl, ⟨hb.up.body, ?_, fun x hx => ?_⟩⟩
 ·have := hb.opn; simp only [List.length_append, List.length_dropLast, List.length_cons, List.length_nil]; omega
 ·rcases List.mem_append.1 hx with hx | hx
  ·exact hb.up.lists x (mem_dropLast hx)
  ·rw [List.mem_singleton.1 hx, h1, h2]
   exact hb.up.lists t hm
theorem close_kp (c b : Int) (r r' : Rd) (k : Nat) (hb : Bk k r) (h : close c b r = .ok r') : Kp k r r' := by
 obtain ⟨h1, h2⟩ := must_ok h
 cases hl : r.opn.getLast? with
 | none => unfold standIn at h1; rw [hl] at h1; cases h1
 | some t =>
  rw [hl] at h2
  obtain rfl := Except.ok.inj h2
  have hb2 : Bk k { r with opn := r.opn.dropLast } := ⟨hb.body, by have := hb.opn; simp only [List.length_dropLast]; omega, fun x hx => hb.lists x (mem_dropLast hx)⟩
  have := add_kp (setK t b) _ k hb2
  exact ⟨this.rest, this.defs, this.banks, this.bk⟩
theorem while_kp (r r' : Rd) (k : Nat) (hb : Bk k r) (h : turnWhile r = .ok r') : Kp k r r' := by
 obtain ⟨h1, h2⟩ := must_ok h
 cases hl : r.opn.getLast? with
 | none => unfold standIn at h1; rw [hl] at h1; cases h1
 | some t =>
  rw [hl] at h2
  obtain rfl := Except.ok.inj h2
  exact setLast_kp r t _ k hb hl rfl rfl
theorem else_kp (r r' : Rd) (k : Nat) (hb : Bk k r) (h : turnElse r = .ok r') : Kp k r r' := by
 obtain ⟨h1, h2⟩ := must_ok h
 cases hl : r.opn.getLast? with
 | none => unfold standIn at h1; rw [hl] at h1; cases h1
 | some t =>
  rw [hl] at h2
  obtain ⟨h3, h4⟩ := must_ok h2
  obtain rfl := Except.ok.inj h4
  exact setLast_kp r t _ k hb hl rfl rfl
theorem leave_kp (r r' : Rd) (k : Nat) (hb : Bk k r) (h : leave r = .ok r') : Kp k r r' := by
 obtain ⟨h1, h2⟩ := must_ok h
 obtain rfl := Except.ok.inj h2
 exact add_kp _ r k hb
theorem finish_kp (r r' : Rd) (k : Nat) (hb : Bk k r) (h : finish r = .ok r') : Kp k r r' := by
 obtain ⟨h1, h2⟩ := must_ok h
 obtain rfl := Except.ok.inj h2
 exact ⟨rfl, rfl, rfl, ⟨hb.up.body, hb.up.opn, hb.up.lists⟩⟩
theorem ctl_kp (s : ByteArray) (f : Rd -> Re) (hc : ctl s = some f) (r r' : Rd) (k : Nat) (hb : Bk k r) (h : f r = .ok r') : Kp k r r' := by
 unfold ctl at hc
 cases h0 : isW s [105, 102]
 rotate_left
 ·rw [h0, if_pos rfl] at hc
  obtain rfl := Option.some.inj hc
  exact begin_kp _ r r' k hb h
 rw [h0, if_neg (show ¬ (false = true) by decide)] at hc
 cases h1 : isW s [101, 108, 115, 101]
 rotate_left
 ·rw [h1, if_pos rfl] at hc
  obtain rfl := Option.some.inj hc
  exact else_kp r r' k hb h
 rw [h1, if_neg (show ¬ (false = true) by decide)] at hc
 cases h2 : isW s [116, 104, 101, 110]
 rotate_left
 ·rw [h2, if_pos rfl] at hc
  obtain rfl := Option.some.inj hc
  exact close_kp _ _ r r' k hb h
 rw [h2, if_neg (show ¬ (false = true) by decide)] at hc
 cases h3 : isW s [98, 101, 103, 105, 110]
 rotate_left
 ·rw [h3, if_pos rfl] at hc
  obtain rfl := Option.some.inj hc
  exact begin_kp _ r r' k hb h
 rw [h3, if_neg (show ¬ (false = true) by decide)] at hc
 cases h4 : isW s [117, 110, 116, 105, 108]
 rotate_left
 ·rw [h4, if_pos rfl] at hc
  obtain rfl := Option.some.inj hc
  exact close_kp _ _ r r' k hb h
 rw [h4, if_neg (show ¬ (false = true) by decide)] at hc
 cases h5 : isW s [97, 103, 97, 105, 110]
 rotate_left
 ·rw [h5, if_pos rfl] at hc
  obtain rfl := Option.some.inj hc
  exact close_kp _ _ r r' k hb h
 rw [h5, if_neg (show ¬ (false = true) by decide)] at hc
 cases h6 : isW s [119, 104, 105, 108, 101]
 rotate_left
 ·rw [h6, if_pos rfl] at hc
  obtain rfl := Option.some.inj hc
  exact while_kp r r' k hb h
 rw [h6, if_neg (show ¬ (false = true) by decide)] at hc
 cases h7 : isW s [114, 101, 112, 101, 97, 116]
 rotate_left
 ·rw [h7, if_pos rfl] at hc
  obtain rfl := Option.some.inj hc
  exact close_kp _ _ r r' k hb h
 rw [h7, if_neg (show ¬ (false = true) by decide)] at hc
 cases h8 : isW s [100, 111]
 rotate_left
 ·rw [h8, if_pos rfl] at hc
  obtain rfl := Option.some.inj hc
  exact begin_kp _ r r' k hb h
 rw [h8, if_neg (show ¬ (false = true) by decide)] at hc
 cases h9 : isW s [108, 111, 111, 112]
 rotate_left
 ·rw [h9, if_pos rfl] at hc
  obtain rfl := Option.some.inj hc
  exact close_kp _ _ r r' k hb h
 rw [h9, if_neg (show ¬ (false = true) by decide)] at hc
 cases h10 : isW s [101, 120, 105, 116]
 rotate_left
 ·rw [h10, if_pos rfl] at hc
  obtain rfl := Option.some.inj hc
  exact leave_kp r r' k hb h
 rw [h10, if_neg (show ¬ (false = true) by decide)] at hc
 cases h11 : isW s [59]
 rotate_left
 ·rw [h11, if_pos rfl] at hc
  obtain rfl := Option.some.inj hc
  exact finish_kp r r' k hb h
 rw [h11, if_neg (show ¬ (false = true) by decide)] at hc
 cases hc
theorem node_kp (pr : ByteArray -> Option Int) (r r' : Rd) (k : Nat) (hb : Bk k r) (h : node pr r = .ok r') : Kp k r r' := by
 unfold node at h
 split at h
 ·obtain rfl := Except.ok.inj h; exact add_kp _ r k hb
 split at h
 ·rename_i f hc; exact ctl_kp _ f hc r r' k hb h
 split at h
 ·obtain rfl := Except.ok.inj h; exact add_kp _ r k hb
 split at h
 ·obtain rfl := Except.ok.inj h; exact add_kp _ r k hb
 ·cases h
theorem next_cases {e : Ps} {r r' : Rd} (h : next e r = .ok r') : ∃ t ts, r.rest = t :: ts /\ r' = { r with at_ := t, rest := ts } := by
 unfold next at h
 cases hn : r.rest with
 | nil => rw [hn] at h; cases h
 | cons t ts => rw [hn] at h; exact ⟨t, ts, rfl, (Except.ok.inj h).symm⟩
theorem bodyN_kp (pr : ByteArray -> Option Int) (e : Ps) : ∀ (n : Nat) (r r' : Rd) (k : Nat), Bk k r -> bodyN pr e n r = .ok r' -> r'.defs = r.defs /\ r'.banks = r.banks /\ r'.rest.length <= r.rest.length /\ ∃ l, r.rest = l ++ r'.rest
 | 0, r, r', k, hb, h => by obtain rfl := Except.ok.inj h; exact ⟨rfl, rfl, Nat.le_refl _, [], rfl⟩
 | n + 1, r, r', k, hb, h => by
  unfold bodyN at h
  split at h
  ·obtain rfl := Except.ok.inj h; exact ⟨rfl, rfl, Nat.le_refl _, [], rfl⟩
  cases h1 : next e r with
  | error er => rw [h1] at h; cases h
  | ok r1 =>
   rw [h1] at h
   obtain ⟨t, ts, ht, rfl⟩ := next_cases h1
   cases h2 : node pr { r with at_ := t, rest := ts } with
   | error er =>
    have : (Except.error er : Re) = .ok r' := by
     have h' : (node pr { r with at_ := t, rest := ts } >>= fun r => bodyN pr e n r) = .ok r' := h
     rw [h2] at h'
     exact h'
    cases this
   | ok r2 =>
    have h' : (node pr { r with at_ := t, rest := ts } >>= fun r => bodyN pr e n r) = .ok r' := h
    rw [h2] at h'
    have kp := node_kp pr { r with at_ := t, rest := ts } r2 k ⟨hb.body, hb.opn, hb.lists⟩ h2
    obtain ⟨a, b, c, l, d⟩ := bodyN_kp pr e n r2 r' (k + 1) kp.bk h'
    refine ⟨a.trans kp.defs, b.trans kp.banks, ?_, t :: l, ?_⟩
    ·rw [kp.rest] at c; rw [ht]; simp only [List.length_cons]; have c' : r'.rest.length <= ts.length := c; omega
    ·rw [ht, List.cons_append, <- d, kp.rest]
set_option maxRecDepth 100000
structure NS (W : World) (c : Nat -> Nat) (bv ov : Value) (body opn : List Nd) (ys : Ys) : Prop where
 bd : LO W c 2 bv body
 ow : LN W c 3 ov opn ys
 lists : ∀ (i : Nat) (n : Nd) (y : Value × Value), opn[i]? = some n -> ys[i]? = some y -> LO W c (4 + 2 * i) y.1 n.th /\ LO W c (5 + 2 * i) y.2 n.el
 ty : ∀ b, c b ≠ 0 -> ∃ cs, W.heap[b]? = some (.cells cs ND (0, 0))
theorem NS.lt {W : World} {c : Nat -> Nat} {bv ov : Value} {body opn : List Nd} {ys : Ys} (h : NS W c bv ov body opn ys) (b : Nat) (hb : c b ≠ 0) : b < W.heap.size := by
 obtain ⟨cs, e⟩ := h.ty b hb
 exact (Array.getElem?_eq_some_iff.1 e).1
theorem NS.kept {W W' : World} {c : Nat -> Nat} {bv ov : Value} {body opn : List Nd} {ys : Ys} (h : NS W c bv ov body opn ys) (k : ∀ b, c b ≠ 0 -> W'.heap[b]? = W.heap[b]?) : NS W' c bv ov body opn ys := by
 have m : ∀ j, j ≠ 0 -> ∀ b, c b = j -> W'.heap[b]? = W.heap[b]? /\ c b = j := fun j hj b hb => ⟨k b (by omega), hb⟩
 refine ⟨h.bd.move (m 2 (by omega)) (m 1 (by omega)), h.ow.move (m 3 (by omega)), fun i n y hn hy => ?_, fun b hb => by rw [k b hb]; exact h.ty b hb⟩
 obtain ⟨a, b⟩ := h.lists i n y hn hy
 exact ⟨a.move (m _ (by omega)) (m 1 (by omega)), b.move (m _ (by omega)) (m 1 (by omega))⟩
theorem NS.below {W W' : World} {c : Nat -> Nat} {bv ov : Value} {body opn : List Nd} {ys : Ys} (h : NS W c bv ov body opn ys) (k : Below W.heap.size W W') : NS W' c bv ov body opn ys := h.kept fun b hb => k.block b (h.lt b hb)
def paint (c : Nat -> Nat) (v : Value) (k : Nat) : Nat -> Nat := fun b => if v.ownBlock = some b then k else c b
theorem paint_own {c : Nat -> Nat} {v : Value} {k b : Nat} (h : v.ownBlock = some b) : paint c v k b = k := if_pos h
theorem grew_keeps {W W' : World} {v v' : Value} {c : Nat -> Nat} {k : Nat} (g : S.Grew W W' v v') (hc : ∀ b, v.ownBlock = some b -> c b = k) (lt : ∀ b, c b ≠ 0 -> b < W.heap.size) (b : Nat) (h0 : c b ≠ 0) (hk : c b ≠ k) : W'.heap[b]? = W.heap[b]? /\ paint c v' k b = c b := by
 have hl := lt b h0
 refine ⟨g.block b hl (fun e => hk (hc b e.symm)), if_neg fun e => ?_⟩
 rcases g.own with o | o
 ·rw [o] at e; exact hk (hc b e)
 ·have := o b e; omega
theorem grew_ty {W W' : World} {v v' : Value} {c : Nat -> Nat} {k n : Nat} {xs : List Value} (g : S.Grew W W' v v') (hc : ∀ b, v.ownBlock = some b -> c b = k) (ty : ∀ b, c b ≠ 0 -> ∃ cs, W.heap[b]? = some (.cells cs ND (0, 0))) (hr : W'.ownsRow 0 ND 9 v' n xs) (b : Nat) (hb : paint c v' k b ≠ 0) : ∃ cs, W'.heap[b]? = some (.cells cs ND (0, 0)) := by
 by_cases e : v'.ownBlock = some b
 ·rcases hr.2 with ⟨e1, _⟩ | ⟨g', cap, cur, e1, _, hg, _⟩
  ·rw [e1] at e; simp [Value.ownBlock] at e
  ·rw [e1] at e
   have : g' = b := by simpa [Value.ownBlock] using e
   subst this
   exact ⟨cur, hg⟩
 ·have hb0 : c b ≠ 0 := by simpa [paint, e] using hb
  obtain ⟨cs, hcs⟩ := ty b hb0
  have hl := (Array.getElem?_eq_some_iff.1 hcs).1
  refine ⟨cs, ?_⟩
  rw [<- hcs]
  rcases g.stay with s | s
  ·exact g.block b hl (fun e2 => e (s.trans e2.symm))
  ·exact s b hl
theorem LN.grow {W W' : World} {c : Nat -> Nat} {k : Nat} {v v' : Value} {l : List Nd} {ys : Ys} {n : Nd} {tv ev : Value} (h : LN W c k v l ys) (hr : W'.ownsRow 0 ND 9 v' (l.length + 1) (ncs l ys ++ ndc n tv ev)) : LN W' (paint c v' k) k v' (l ++ [n]) (ys ++ [(tv, ev)]) := by
 refine ⟨?_, by simp [h.len], fun b e => paint_own e⟩
 rw [ncs_app l ys n (tv, ev) h.len, List.length_append]
 exact hr
theorem LO.grow {W W' : World} {c : Nat -> Nat} {k : Nat} {v v' : Value} {l : List Nd} {ys : Ys} {n : Nd} {tv ev : Value} (hk : k ≠ 1) (h : LN W c k v l ys) (hn : ∀ (i : Nat) (n : Nd) (y : Value × Value), l[i]? = some n -> ys[i]? = some y -> NV W (fun b => c b = 1) y.1 n.th /\ NV W (fun b => c b = 1) y.2 n.el)
  (lt : ∀ b, c b ≠ 0 -> b < W.heap.size) (hr : W'.ownsRow 0 ND 9 v' (l.length + 1) (ncs l ys ++ ndc n tv ev)) (g : S.Grew W W' v v') (ht : NV W (fun b => c b = 1) tv n.th) (he : NV W (fun b => c b = 1) ev n.el) : LO W' (paint c v' k) k v' (l ++ [n]) := by
 have m1 : ∀ b, c b = 1 -> W'.heap[b]? = W.heap[b]? /\ paint c v' k b = 1 := fun b hb => by
  have := grew_keeps g h.col lt b (by omega) (by omega)
  exact ⟨this.1, this.2.trans hb⟩
 have mv : ∀ {u : Value} {l : List Nd}, NV W (fun b => c b = 1) u l -> NV W' (fun b => paint c v' k b = 1) u l := fun h => h.kept (fun i hi => (m1 i hi).1) (fun i hi => (m1 i hi).2)
 refine ⟨ys ++ [(tv, ev)], h.grow hr, fun i m y hl hy => ?_⟩
 by_cases hi : i < l.length
 ·rw [List.getElem?_append_left hi] at hl
  rw [List.getElem?_append_left (by rw [h.len]; exact hi)] at hy
  obtain ⟨a, b⟩ := hn i m y hl hy
  exact ⟨mv a, mv b⟩
 ·rw [List.getElem?_append_right (by omega)] at hl
  rw [List.getElem?_append_right (by rw [h.len]; omega), h.len] at hy
  have h0 : i - l.length = 0 := by
   have := (List.getElem?_eq_some_iff.1 hl).1
   simp at this
   omega
  rw [h0] at hl hy
  simp only [List.getElem?_cons_zero, Option.some.injEq] at hl hy
  subst hl hy
  exact ⟨mv ht, mv he⟩
theorem NS.addB {W W' : World} {c : Nat -> Nat} {bv v' ov : Value} {body opn : List Nd} {ys zs : Ys} {n : Nd} {tv ev : Value} (h : NS W c bv ov body opn ys) (hb : LN W c 2 bv body zs) (hn : ∀ (i : Nat) (n : Nd) (y : Value × Value), body[i]? = some n -> zs[i]? = some y -> NV W (fun b => c b = 1) y.1 n.th /\ NV W (fun b => c b = 1) y.2 n.el)
  (hr : W'.ownsRow 0 ND 9 v' (body.length + 1) (ncs body zs ++ ndc n tv ev)) (g : S.Grew W W' bv v') (ht : NV W (fun b => c b = 1) tv n.th) (he : NV W (fun b => c b = 1) ev n.el) : NS W' (paint c v' 2) v' ov (body ++ [n]) opn ys := by
 have m : ∀ j, j ≠ 0 -> j ≠ 2 -> ∀ b, c b = j -> W'.heap[b]? = W.heap[b]? /\ paint c v' 2 b = j := fun j h0 h2 b e => by
  have := grew_keeps g hb.col h.lt b (by omega) (by omega)
  exact ⟨this.1, this.2.trans e⟩
 refine ⟨LO.grow (by omega) hb hn h.lt hr g ht he, h.ow.move (m 3 (by omega) (by omega)), fun i x y hx hy => ?_, grew_ty g hb.col h.ty hr⟩
 obtain ⟨a, b⟩ := h.lists i x y hx hy
 exact ⟨a.move (m _ (by omega) (by omega)) (m 1 (by omega) (by omega)), b.move (m _ (by omega) (by omega)) (m 1 (by omega) (by omega))⟩
theorem NS.begin {W W' : World} {c : Nat -> Nat} {bv ov v' : Value} {body opn : List Nd} {ys : Ys} {n : Nd} (h : NS W c bv ov body opn ys) (ht : n.th = []) (he : n.el = [])
  (hr : W'.ownsRow 0 ND 9 v' (opn.length + 1) (ncs opn ys ++ ndc n (.slice none 0 0) (.slice none 0 0))) (g : S.Grew W W' ov v') : NS W' (paint c v' 3) bv v' body (opn ++ [n]) (ys ++ [(.slice none 0 0, .slice none 0 0)]) := by
 have m : ∀ j, j ≠ 0 -> j ≠ 3 -> ∀ b, c b = j -> W'.heap[b]? = W.heap[b]? /\ paint c v' 3 b = j := fun j h0 h2 b e => by
  have := grew_keeps g h.ow.col h.lt b (by omega) (by omega)
  exact ⟨this.1, this.2.trans e⟩
 refine ⟨h.bd.move (m 2 (by omega) (by omega)) (m 1 (by omega) (by omega)), h.ow.grow hr, fun i x y hx hy => ?_, grew_ty g h.ow.col h.ty hr⟩
 by_cases hi : i < opn.length
 ·rw [List.getElem?_append_left hi] at hx
  rw [List.getElem?_append_left (by rw [h.ow.len]; exact hi)] at hy
  obtain ⟨a, b⟩ := h.lists i x y hx hy
  exact ⟨a.move (m _ (by omega) (by omega)) (m 1 (by omega) (by omega)), b.move (m _ (by omega) (by omega)) (m 1 (by omega) (by omega))⟩
 ·rw [List.getElem?_append_right (by omega)] at hx
  rw [List.getElem?_append_right (by rw [h.ow.len]; omega), h.ow.len] at hy
  have h0 : i - opn.length = 0 := by
   have := (List.getElem?_eq_some_iff.1 hx).1
   simp at this
   omega
  rw [h0] at hx hy
  simp only [List.getElem?_cons_zero, Option.some.injEq] at hx hy
  subst hx hy
  rw [ht, he]
  exact ⟨LO.nil _ _ _, LO.nil _ _ _⟩
theorem own_stored {W : World} {g n cap : Nat} {l : List Nd} {ys : Ys} {c : Nat -> Nat} {k : Nat} (h : LN W c k (.slice (some ⟨g, 0, none⟩) l.length cap) l ys) (i j : Nat) (m n' : Nd) (y y' : Value × Value) (x : Value) (hl : l[i]? = some m) (hy : ys[i]? = some y) (hj : j < 9) (hx : (ndc m y.1 y.2).set j x = ndc n' y'.1 y'.2) :
  LN (W.setCell ⟨g, i * 9 + j, none⟩ x) c k (.slice (some ⟨g, 0, none⟩) l.length cap) (l.set i n') (ys.set i y') := by
 refine ⟨?_, by simp [h.len], h.col⟩
 have q := (World.ownsRow.stored h.row (i * 9 + j) x).1
 rw [ncs_set l ys i j m n' y y' x hl hy hj hx] at q
 rw [List.length_set]
 exact q
theorem set_other (W : World) (g o : Nat) (x : Value) (b : Nat) (h : b ≠ g) : (W.setCell ⟨g, o, none⟩ x).heap[b]? = W.heap[b]? := heap_setCell_other W ⟨g, o, none⟩ b x h
theorem NS.setO {W : World} {c : Nat -> Nat} {bv : Value} {body opn : List Nd} {ys : Ys} {g cap : Nat} (h : NS W c bv (.slice (some ⟨g, 0, none⟩) opn.length cap) body opn ys) (i j : Nat) (m n' : Nd) (y : Value × Value) (x : Value) (hl : opn[i]? = some m) (hy : ys[i]? = some y) (hj : j < 9) (hx : (ndc m y.1 y.2).set j x = ndc n' y.1 y.2) (ht : n'.th = m.th) (he : n'.el = m.el) :
  NS (W.setCell ⟨g, i * 9 + j, none⟩ x) c bv (.slice (some ⟨g, 0, none⟩) opn.length cap) body (opn.set i n') ys := by
 have hg : c g = 3 := h.ow.col g rfl
 have m : ∀ j', j' ≠ 3 -> ∀ b, c b = j' -> (W.setCell ⟨g, i * 9 + j, none⟩ x).heap[b]? = W.heap[b]? /\ c b = j' := fun j' hj b e => ⟨set_other W g _ x b (by rintro rfl; omega), e⟩
 have hyy : ys.set i y = ys := by
  obtain ⟨h1, h2⟩ := List.getElem?_eq_some_iff.1 hy
  rw [<- h2, List.set_getElem_self]
 have q := own_stored (n := opn.length) h.ow i j _ n' y y x hl hy hj hx
 rw [hyy] at q
 refine ⟨h.bd.move (m 2 (by omega)) (m 1 (by omega)), q, fun i' x' y' hx' hy' => ?_, fun b hb => ?_⟩
 ·rw [List.getElem?_set] at hx'
  by_cases hi : i = i'
  ·subst hi
   rw [if_pos rfl] at hx'
   split at hx'
   ·simp only [Option.some.injEq] at hx'
    subst hx'
    obtain ⟨a, b⟩ := h.lists i _ y' hl hy'
    rw [ht, he]
    exact ⟨a.move (m _ (by omega)) (m 1 (by omega)), b.move (m _ (by omega)) (m 1 (by omega))⟩
   ·cases hx'
  ·rw [if_neg hi] at hx'
   obtain ⟨a, b⟩ := h.lists i' x' y' hx' hy'
   exact ⟨a.move (m _ (by omega)) (m 1 (by omega)), b.move (m _ (by omega)) (m 1 (by omega))⟩
 ·by_cases e : b = g
  ·subst e
   rcases q.row.2 with ⟨e1, _⟩ | ⟨g', cap', cur, e1, _, hg', _⟩
   ·cases e1
   ·simp only [Value.slice.injEq, Option.some.injEq, Addr.mk.injEq] at e1
    obtain ⟨⟨rfl, _⟩, _⟩ := e1
    exact ⟨cur, hg'⟩
  ·rw [set_other W g _ x b e]; exact h.ty b hb
set_option maxRecDepth 100000
theorem NS.addT {W W1 : World} {c : Nat -> Nat} {bv v' : Value} {body opn : List Nd} {ys zs : Ys} {g cap i : Nat} {t n : Nd} {y : Value × Value} {tv ev : Value} (h : NS W c bv (.slice (some ⟨g, 0, none⟩) opn.length cap) body opn ys) (hl : opn[i]? = some t) (hy : ys[i]? = some y)
    (hb : LN W c (4 + 2 * i) y.1 t.th zs) (hn : ∀ (i : Nat) (n : Nd) (y : Value × Value), t.th[i]? = some n -> zs[i]? = some y -> NV W (fun b => c b = 1) y.1 n.th /\ NV W (fun b => c b = 1) y.2 n.el)
    (hr : W1.ownsRow 0 ND 9 v' (t.th.length + 1) (ncs t.th zs ++ ndc n tv ev)) (g1 : S.Grew W W1 y.1 v') (ht : NV W (fun b => c b = 1) tv n.th) (he : NV W (fun b => c b = 1) ev n.el) :
    NS (W1.setCell ⟨g, i * 9 + 4, none⟩ v') (paint c v' (4 + 2 * i)) bv (.slice (some ⟨g, 0, none⟩) opn.length cap) body (opn.set i { t with th := t.th ++ [n] }) (ys.set i (v', y.2)) := by
  have hg : c g = 3 := h.ow.col g rfl
  have mm : ∀ j', j' ≠ 0 -> j' ≠ 4 + 2 * i -> ∀ b, c b = j' -> W1.heap[b]? = W.heap[b]? /\ paint c v' (4 + 2 * i) b = j' := fun j' h0 h2 b e => by
    have := grew_keeps g1 hb.col h.lt b (by omega) (by omega)
    exact ⟨this.1, this.2.trans e⟩
  have hg' : paint c v' (4 + 2 * i) g = 3 := (mm 3 (by omega) (by omega) g hg).2
  have m : ∀ j', j' ≠ 0 -> j' ≠ 3 -> j' ≠ 4 + 2 * i -> ∀ b, c b = j' -> (W1.setCell ⟨g, i * 9 + 4, none⟩ v').heap[b]? = W.heap[b]? /\ paint c v' (4 + 2 * i) b = j' := fun j' h0 h3 h2 b e => by
    obtain ⟨a, a2⟩ := mm j' h0 h2 b e
    exact ⟨(set_other W1 g _ v' b (by rintro rfl; omega)).trans a, a2⟩
  have mw : ∀ j', j' ≠ 3 -> ∀ b, paint c v' (4 + 2 * i) b = j' -> (W1.setCell ⟨g, i * 9 + 4, none⟩ v').heap[b]? = W1.heap[b]? /\ paint c v' (4 + 2 * i) b = j' := fun j' h3 b e => ⟨set_other W1 g _ v' b (by rintro rfl; omega), e⟩
  have q := own_stored (n := opn.length) (h.ow.move (mm 3 (by omega) (by omega))) i 4 t { t with th := t.th ++ [n] } y (v', y.2) v' hl hy (by omega) rfl
  have hlen : i < opn.length := (List.getElem?_eq_some_iff.1 hl).1
  have hyl : i < ys.length := (List.getElem?_eq_some_iff.1 hy).1
  refine ⟨h.bd.move (m 2 (by omega) (by omega) (by omega)) (m 1 (by omega) (by omega) (by omega)), q, fun i' x' y' hx' hy' => ?_, fun b hb' => ?_⟩
  · rw [List.getElem?_set] at hx' hy'
    by_cases hi : i = i'
    · subst hi
      rw [if_pos rfl, if_pos hlen] at hx'
      rw [if_pos rfl, if_pos hyl] at hy'
      simp only [Option.some.injEq] at hx' hy'
      subst hx' hy'
      have a := LO.grow (by omega) hb hn h.lt hr g1 ht he
      have a2 := a.move (mw _ (by omega)) (mw 1 (by omega))
      obtain ⟨b1, b2⟩ := h.lists i _ y hl hy
      exact ⟨a2, b2.move (m _ (by omega) (by omega) (by omega)) (m 1 (by omega) (by omega) (by omega))⟩
    · rw [if_neg hi] at hx' hy'
      obtain ⟨a, b⟩ := h.lists i' x' y' hx' hy'
      exact ⟨a.move (m _ (by omega) (by omega) (by omega)) (m 1 (by omega) (by omega) (by omega)), b.move (m _ (by omega) (by omega) (by omega)) (m 1 (by omega) (by omega) (by omega))⟩
  · by_cases e : b = g
    · subst e
      rcases q.row.2 with ⟨e1, _⟩ | ⟨g', cap', cur, e1, _, hg', _⟩
      · cases e1
      · simp only [Value.slice.injEq, Option.some.injEq, Addr.mk.injEq] at e1
        obtain ⟨⟨rfl, _⟩, _⟩ := e1
        exact ⟨cur, hg'⟩
    · rw [set_other W1 g _ v' b e]; exact grew_ty g1 hb.col h.ty hr b hb'
theorem NS.addE {W W1 : World} {c : Nat -> Nat} {bv v' : Value} {body opn : List Nd} {ys zs : Ys} {g cap i : Nat} {t n : Nd} {y : Value × Value} {tv ev : Value} (h : NS W c bv (.slice (some ⟨g, 0, none⟩) opn.length cap) body opn ys) (hl : opn[i]? = some t) (hy : ys[i]? = some y)
    (hb : LN W c (5 + 2 * i) y.2 t.el zs) (hn : ∀ (i : Nat) (n : Nd) (y : Value × Value), t.el[i]? = some n -> zs[i]? = some y -> NV W (fun b => c b = 1) y.1 n.th /\ NV W (fun b => c b = 1) y.2 n.el)
    (hr : W1.ownsRow 0 ND 9 v' (t.el.length + 1) (ncs t.el zs ++ ndc n tv ev)) (g1 : S.Grew W W1 y.2 v') (ht : NV W (fun b => c b = 1) tv n.th) (he : NV W (fun b => c b = 1) ev n.el) :
    NS (W1.setCell ⟨g, i * 9 + 5, none⟩ v') (paint c v' (5 + 2 * i)) bv (.slice (some ⟨g, 0, none⟩) opn.length cap) body (opn.set i { t with el := t.el ++ [n] }) (ys.set i (y.1, v')) := by
  have hg : c g = 3 := h.ow.col g rfl
  have mm : ∀ j', j' ≠ 0 -> j' ≠ 5 + 2 * i -> ∀ b, c b = j' -> W1.heap[b]? = W.heap[b]? /\ paint c v' (5 + 2 * i) b = j' := fun j' h0 h2 b e => by
    have := grew_keeps g1 hb.col h.lt b (by omega) (by omega)
    exact ⟨this.1, this.2.trans e⟩
  have hg' : paint c v' (5 + 2 * i) g = 3 := (mm 3 (by omega) (by omega) g hg).2
  have m : ∀ j', j' ≠ 0 -> j' ≠ 3 -> j' ≠ 5 + 2 * i -> ∀ b, c b = j' -> (W1.setCell ⟨g, i * 9 + 5, none⟩ v').heap[b]? = W.heap[b]? /\ paint c v' (5 + 2 * i) b = j' := fun j' h0 h3 h2 b e => by
    obtain ⟨a, a2⟩ := mm j' h0 h2 b e
    exact ⟨(set_other W1 g _ v' b (by rintro rfl; omega)).trans a, a2⟩
  have mw : ∀ j', j' ≠ 3 -> ∀ b, paint c v' (5 + 2 * i) b = j' -> (W1.setCell ⟨g, i * 9 + 5, none⟩ v').heap[b]? = W1.heap[b]? /\ paint c v' (5 + 2 * i) b = j' := fun j' h3 b e => ⟨set_other W1 g _ v' b (by rintro rfl; omega), e⟩
  have q := own_stored (n := opn.length) (h.ow.move (mm 3 (by omega) (by omega))) i 5 t { t with el := t.el ++ [n] } y (y.1, v') v' hl hy (by omega) rfl
  have hlen : i < opn.length := (List.getElem?_eq_some_iff.1 hl).1
  have hyl : i < ys.length := (List.getElem?_eq_some_iff.1 hy).1
  refine ⟨h.bd.move (m 2 (by omega) (by omega) (by omega)) (m 1 (by omega) (by omega) (by omega)), q, fun i' x' y' hx' hy' => ?_, fun b hb' => ?_⟩
  · rw [List.getElem?_set] at hx' hy'
    by_cases hi : i = i'
    · subst hi
      rw [if_pos rfl, if_pos hlen] at hx'
      rw [if_pos rfl, if_pos hyl] at hy'
      simp only [Option.some.injEq] at hx' hy'
      subst hx' hy'
      have a := LO.grow (by omega) hb hn h.lt hr g1 ht he
      have a2 := a.move (mw _ (by omega)) (mw 1 (by omega))
      obtain ⟨b1, b2⟩ := h.lists i _ y hl hy
      exact ⟨b1.move (m _ (by omega) (by omega) (by omega)) (m 1 (by omega) (by omega) (by omega)), a2⟩
    · rw [if_neg hi] at hx' hy'
      obtain ⟨a, b⟩ := h.lists i' x' y' hx' hy'
      exact ⟨a.move (m _ (by omega) (by omega) (by omega)) (m 1 (by omega) (by omega) (by omega)), b.move (m _ (by omega) (by omega) (by omega)) (m 1 (by omega) (by omega) (by omega))⟩
  · by_cases e : b = g
    · subst e
      rcases q.row.2 with ⟨e1, _⟩ | ⟨g', cap', cur, e1, _, hg', _⟩
      · cases e1
      · simp only [Value.slice.injEq, Option.some.injEq, Addr.mk.injEq] at e1
        obtain ⟨⟨rfl, _⟩, _⟩ := e1
        exact ⟨cur, hg'⟩
    · rw [set_other W1 g _ v' b e]; exact grew_ty g1 hb.col h.ty hr b hb'
theorem LO.nv {W : World} {c : Nat -> Nat} {k : Nat} {v : Value} {l : List Nd} {O : Nat -> Prop} (h : LO W c k v l) (hk : ∀ b, c b = k -> O b) (h1 : ∀ b, c b = 1 -> O b) (hl : l.length <= 140737488355328) : NV W O v l := by
  obtain ⟨ys, hr, hn⟩ := h
  rcases hr.val with ⟨rfl, rfl⟩ | ⟨g, cap, rfl, hc, _⟩
  · exact NV.nil (.inl rfl)
  · refine NV.row (hk g hc) hl fun i n hi => ?_
    have hil : i < l.length := (List.getElem?_eq_some_iff.1 hi).1
    obtain ⟨y, hy⟩ : ∃ y, ys[i]? = some y := ⟨_, List.getElem?_eq_getElem (by rw [hr.len]; exact hil)⟩
    obtain ⟨a, b⟩ := hn i n y hi hy
    refine ⟨y.1, y.2, fun j x hx => ?_, a.kept (fun _ _ => rfl) h1, b.kept (fun _ _ => rfl) h1⟩
    rw [Nat.zero_add]
    exact hr.cell i n y hi hy j x hx
theorem own_take {W : World} {B g n cap k : Nat} {t : TypeId} {s : Nat} {xs : List Value} (h : W.ownsRow B t s (.slice (some ⟨g, 0, none⟩) n cap) n xs) (hk : k <= n) : W.ownsRow B t s (.slice (some ⟨g, 0, none⟩) k cap) k (xs.take (k * s)) := by
  obtain ⟨h1, h2⟩ := h
  have hks : k * s <= n * s := Nat.mul_le_mul_right s hk
  refine ⟨by rw [List.length_take, h1]; omega, ?_⟩
  rcases h2 with ⟨e, _⟩ | ⟨g', cap', cur, e, a1, a2, a3, a4, a5, a6⟩
  · cases e
  · simp only [Value.slice.injEq, Option.some.injEq, Addr.mk.injEq] at e
    obtain ⟨⟨rfl, _⟩, _, rfl⟩ := e
    refine .inr ⟨g, cap, cur, rfl, a1, a2, by omega, a4, a5, ?_⟩
    rw [<- a6, List.take_take, Nat.min_eq_left hks]
def done (c : Nat -> Nat) (i : Nat) : Nat -> Nat := fun b => if c b = 4 + 2 * i \/ c b = 5 + 2 * i then 1 else c b
theorem NS.shut {W : World} {c : Nat -> Nat} {bv : Value} {body opn : List Nd} {ys : Ys} {g cap i : Nat} {t : Nd} {y : Value × Value} (h : NS W c bv (.slice (some ⟨g, 0, none⟩) opn.length cap) body opn ys) (hi : i + 1 = opn.length) (hl : opn[i]? = some t) (hy : ys[i]? = some y) (ht : t.th.length <= 140737488355328) (he : t.el.length <= 140737488355328) :
    NS W (done c i) bv (.slice (some ⟨g, 0, none⟩) i cap) body (opn.take i) (ys.take i) /\ NV W (fun b => done c i b = 1) y.1 t.th /\ NV W (fun b => done c i b = 1) y.2 t.el := by
  have m : ∀ j', j' ≠ 4 + 2 * i -> j' ≠ 5 + 2 * i -> ∀ b, c b = j' -> W.heap[b]? = W.heap[b]? /\ done c i b = j' := fun j' h4 h5 b e => ⟨rfl, by unfold done; rw [if_neg (by omega)]; exact e⟩
  have d4 : ∀ b, c b = 4 + 2 * i -> done c i b = 1 := fun b e => by unfold done; rw [if_pos (.inl e)]
  have d5 : ∀ b, c b = 5 + 2 * i -> done c i b = 1 := fun b e => by unfold done; rw [if_pos (.inr e)]
  obtain ⟨a, b⟩ := h.lists i t y hl hy
  have l1 : (opn.take i).length = i := by rw [List.length_take]; omega
  have l2 : (ys.take i).length = i := by rw [List.length_take, h.ow.len]; omega
  refine ⟨⟨h.bd.move (m 2 (by omega) (by omega)) (m 1 (by omega) (by omega)), ⟨?_, by rw [l1, l2], fun b e => (m 3 (by omega) (by omega) b (h.ow.col b e)).2⟩, fun i' x' y' hx' hy' => ?_, fun b hb => ?_⟩, a.nv d4 (fun b e => (m 1 (by omega) (by omega) b e).2) ht, b.nv d5 (fun b e => (m 1 (by omega) (by omega) b e).2) he⟩
  · have q := own_take h.ow.row (show i <= opn.length by omega)
    rw [ncs_take opn ys i (by omega) h.ow.len] at q
    rw [l1]
    exact q
  · have hlt : i' < i := by
      have := (List.getElem?_eq_some_iff.1 hx').1
      omega
    rw [List.getElem?_take, if_pos hlt] at hx' hy'
    obtain ⟨a, b⟩ := h.lists i' x' y' hx' hy'
    exact ⟨a.move (m _ (by omega) (by omega)) (m 1 (by omega) (by omega)), b.move (m _ (by omega) (by omega)) (m 1 (by omega) (by omega))⟩
  · refine h.ty b fun e => hb ?_
    unfold done
    rw [if_neg (by omega)]
    exact e
end Go.Proofs.YtdnklgceghllaaaGreatDoor.D
namespace Go.Proofs.YtdnklgceghllaaaGreatDoor.M
open Go.Proofs
open Go.Proofs.YtdnklgceghllaaaGreatDoor.K (Tk)
open Go.Proofs.YtdnklgceghllaaaGreatDoor.Y (Nd Df Ps e0)
open Go.Proofs.YtdnklgceghllaaaGreatDoor.D
set_option linter.unusedVariables false
set_option linter.unusedSimpArgs false
def setS (S : List Tk) (r : Rd) : Rd := { r with rest := S }
theorem setS_self (r : Rd) : setS r.rest r = r := rfl
theorem setS_at (S : List Tk) (r : Rd) : (setS S r).at_ = r.at_ := rfl
structure Nt (f : Rd -> Re) : Prop where
  ok : ∀ (r : Rd) (S : List Tk), f (setS S r) = (f r).map (setS S)
  er : ∀ (r : Rd) (x : Er), f r = .error x -> x.1 = r.at_.p
theorem Nt.rest {f : Rd -> Re} (h : Nt f) {r r' : Rd} (e : f r = .ok r') : r'.rest = r.rest := by
  have := h.ok r r.rest
  rw [setS_self, e] at this
  simp only [Except.map, Except.ok.injEq] at this
  rw [this]; rfl
theorem Nt.go {f : Rd -> Re} (h : Nt f) {r r' : Rd} (e : f r = .ok r') (S : List Tk) : f (setS S r) = .ok (setS S r') := by rw [h.ok, e]; rfl
theorem Nt.no {f : Rd -> Re} (h : Nt f) {r : Rd} {x : Er} (e : f r = .error x) (S : List Tk) : f (setS S r) = .error x := by rw [h.ok, e]; rfl
theorem must_er {b : Bool} {t : Tk} {c : Int} {f : Unit -> Re} {x : Er} (h : (must b t c >>= f) = .error x) : x.1 = t.p \/ f () = .error x := by
  unfold must at h
  cases b
  · left
    have : (Except.error (t.p, c) : Re) = .error x := h
    cases this
    rfl
  · exact .inr h
theorem must_map {b : Bool} {t : Tk} {c : Int} {f g : Unit -> Re} {S : List Tk} (h : f () = (g ()).map (setS S)) : (must b t c >>= f) = (must b t c >>= g).map (setS S) := by
  unfold must
  cases b
  · rfl
  · exact h
theorem nt_begin (k : Int) : Nt (begin_ k) := ⟨fun r S => must_map rfl, fun r x h => by
  unfold begin_ at h
  rcases must_er h with h | h
  · exact h
  · cases h⟩
theorem add_setS (n : Nd) (S : List Tk) (r : Rd) : add n (setS S r) = setS S (add n r) := by
  unfold add
  show (match r.opn.getLast? with | none => _ | some t => _) = _
  cases h : r.opn.getLast? <;> rfl
theorem nt_close (k b : Int) : Nt (close k b) := ⟨fun r S => by
  unfold close
  refine must_map ?_
  show (match r.opn.getLast? with | none => _ | some t => _) = _
  cases h : r.opn.getLast? with
  | none => rfl
  | some t => exact congrArg Except.ok (add_setS (setK t b) S { r with opn := r.opn.dropLast }), fun r x h => by
  unfold close at h
  rcases must_er h with h | h
  · exact h
  · cases ho : r.opn.getLast? with
    | none => rw [ho] at h; cases h
    | some t => rw [ho] at h; cases h⟩
theorem nt_turnElse : Nt turnElse := ⟨fun r S => by
  unfold turnElse
  refine must_map ?_
  show (match r.opn.getLast? with | none => _ | some t => _) = _
  cases h : r.opn.getLast? with
  | none => rfl
  | some t => exact must_map rfl, fun r x h => by
  unfold turnElse at h
  rcases must_er h with h | h
  · exact h
  · cases ho : r.opn.getLast? with
    | none => rw [ho] at h; cases h
    | some t =>
      rw [ho] at h
      rcases must_er h with h | h
      · exact h
      · cases h⟩
theorem nt_turnWhile : Nt turnWhile := ⟨fun r S => by
  unfold turnWhile
  refine must_map ?_
  show (match r.opn.getLast? with | none => _ | some t => _) = _
  cases h : r.opn.getLast? <;> rfl, fun r x h => by
  unfold turnWhile at h
  rcases must_er h with h | h
  · exact h
  · cases ho : r.opn.getLast? with
    | none => rw [ho] at h; cases h
    | some t => rw [ho] at h; cases h⟩
theorem nt_leave : Nt leave := ⟨fun r S => by
  unfold leave
  exact must_map (congrArg Except.ok (add_setS (ext r.at_.p) S r)), fun r x h => by
  unfold leave at h
  rcases must_er h with h | h
  · exact h
  · cases h⟩
theorem nt_finish : Nt finish := ⟨fun r S => by
  unfold finish
  exact must_map rfl, fun r x h => by
  unfold finish at h
  rcases must_er h with h | h
  · exact h
  · cases h⟩
theorem ite_nt {b : Bool} {g : Rd -> Re} {y : Option (Rd -> Re)} (hg : Nt g) (hy : ∀ f, y = some f -> Nt f) : ∀ f, (if b = true then some g else y) = some f -> Nt f := by
  intro f h
  cases b
  · exact hy f h
  · obtain rfl := Option.some.inj h
    exact hg
theorem ctl_nt (s : ByteArray) : ∀ (f : Rd -> Re), ctl s = some f -> Nt f := by
  unfold ctl
  refine ite_nt (nt_begin _) (ite_nt nt_turnElse (ite_nt (nt_close _ _) (ite_nt (nt_begin _) (ite_nt (nt_close _ _) (ite_nt (nt_close _ _) (ite_nt nt_turnWhile (ite_nt (nt_close _ _) (ite_nt (nt_begin _) (ite_nt (nt_close _ _) (ite_nt nt_leave (ite_nt nt_finish ?_)))))))))))
  intro f h
  cases h
section
variable (pr : ByteArray -> Option Int)
theorem nt_node : Nt (node pr) := ⟨fun r S => by
  unfold node
  rw [setS_at]
  by_cases h2 : (r.at_.k == 2) = true
  · rw [if_pos h2, if_pos h2]
    exact congrArg Except.ok (add_setS _ S r)
  · rw [if_neg h2, if_neg h2]
    cases hc : ctl r.at_.t with
    | some f => exact (ctl_nt _ f hc).ok r S
    | none =>
      simp only
      have hk : known (setS S r) r.at_.t = known r r.at_.t := rfl
      rw [hk]
      by_cases h3 : known r r.at_.t = true
      · rw [if_pos h3, if_pos h3]
        exact congrArg Except.ok (add_setS _ S r)
      · rw [if_neg h3, if_neg h3]
        cases pr r.at_.t with
        | none => rfl
        | some op => exact congrArg Except.ok (add_setS _ S r), fun r x h => by
  unfold node at h
  by_cases h2 : (r.at_.k == 2) = true
  · rw [if_pos h2] at h; cases h
  · rw [if_neg h2] at h
    cases hc : ctl r.at_.t with
    | some f =>
      rw [hc] at h
      exact (ctl_nt _ f hc).er r x h
    | none =>
      rw [hc] at h
      simp only at h
      by_cases h3 : known r r.at_.t = true
      · rw [if_pos h3] at h; cases h
      · rw [if_neg h3] at h
        cases hp : pr r.at_.t with
        | none => rw [hp] at h; cases h; rfl
        | some op => rw [hp] at h; cases h⟩
theorem next_cons (e : Ps) (r : Rd) (t : Tk) (S : List Tk) : next e (setS (t :: S) r) = .ok { r with at_ := t, rest := S } := rfl
theorem next_nil (e : Ps) (r : Rd) (h : r.rest = []) : next e r = .error (e, 105) := by unfold next; rw [h]
theorem bodyN_one (e : Ps) (m : Nat) (r : Rd) (t : Tk) (S : List Tk) (h : r.ended = false) : bodyN pr e (m + 1) (setS (t :: S) r) = (node pr { r with at_ := t, rest := S } >>= fun r => bodyN pr e m r) := by
  rw [bodyN, if_neg (by show ¬ r.ended = true; rw [h]; decide), next_cons]
  rfl
theorem body_first (e : Ps) : ∀ (m : Nat) (r : Rd), r.rest.length + 1 <= m ->
    (∀ r', bodyN pr e m r = .ok r' -> ∃ P, r.rest = P ++ r'.rest /\ ∀ S e' m', (P ++ S).length + 1 <= m' -> bodyN pr e' m' (setS (P ++ S) r) = .ok (setS S r')) /\
    (∀ x, bodyN pr e m r = .error x -> x.2 = 105 \/ ∃ P t S0, r.rest = P ++ t :: S0 /\ x.1 = t.p /\ ∀ S e' m', (P ++ t :: S).length + 1 <= m' -> bodyN pr e' m' (setS (P ++ t :: S) r) = .error x)
  | 0, r, h => absurd h (by omega)
  | m + 1, r, h => by
    by_cases he : r.ended = true
    · have h1 : ∀ e' m' S, 1 <= m' -> bodyN pr e' m' (setS S r) = .ok (setS S r) := fun e' m' S hm => by
        obtain ⟨k, rfl⟩ : ∃ k, m' = k + 1 := ⟨m' - 1, by omega⟩
        rw [bodyN, if_pos (show (setS S r).ended = true from he)]
      refine ⟨fun r' hr => ?_, fun x hx => ?_⟩
      · have := h1 e (m + 1) r.rest (by omega)
        rw [setS_self, hr] at this
        cases this
        exact ⟨[], rfl, fun S e' m' hm => h1 e' m' S (by omega)⟩
      · have := h1 e (m + 1) r.rest (by omega)
        rw [setS_self, hx] at this
        cases this
    · have he' : r.ended = false := by simpa using he
      cases hr : r.rest with
      | nil =>
        have h1 : bodyN pr e (m + 1) r = .error (e, 105) := by
          rw [bodyN, if_neg he, next_nil e r hr]; rfl
        rw [h1]
        exact ⟨fun r' h => (by cases h), fun x h => .inl (by cases h; rfl)⟩
      | cons t S =>
        have h0 : r = setS (t :: S) r := by rw [<- hr]; rfl
        rw [h0, bodyN_one pr e m r t S he']
        have hl : S.length + 1 <= m := by rw [hr, List.length_cons] at h; omega
        cases hn : node pr { r with at_ := t, rest := S } with
        | error y =>
          refine ⟨fun r' h => (by cases h), fun x hx => .inr ⟨[], t, S, rfl, ?_, fun S' e' m' hm => ?_⟩⟩
          · cases hx
            exact (nt_node pr).er _ _ hn
          · obtain ⟨k, rfl⟩ : ∃ k, m' = k + 1 := ⟨m' - 1, by omega⟩
            show bodyN pr e' (k + 1) (setS (t :: S') (setS (t :: S) r)) = _
            rw [show setS (t :: S') (setS (t :: S) r) = setS (t :: S') r from rfl, bodyN_one pr e' k r t S' he']
            have := (nt_node pr).no hn S'
            rw [show setS S' { r with at_ := t, rest := S } = { r with at_ := t, rest := S' } from rfl] at this
            rw [this]
            cases hx
            rfl
        | ok r1 =>
          have hr1 : r1.rest = S := (nt_node pr).rest hn
          obtain ⟨i1, i2⟩ := body_first e m r1 (by rw [hr1]; exact hl)
          have hstep : ∀ S' e' k, bodyN pr e' (k + 1) (setS (t :: S') r) = bodyN pr e' k (setS S' r1) := fun S' e' k => by
            rw [bodyN_one pr e' k r t S' he']
            have := (nt_node pr).go hn S'
            rw [show setS S' { r with at_ := t, rest := S } = { r with at_ := t, rest := S' } from rfl] at this
            rw [this]
            rfl
          refine ⟨fun r' h => ?_, fun x h => ?_⟩
          · obtain ⟨P, hP, k⟩ := i1 r' h
            refine ⟨t :: P, by rw [List.cons_append, <- hP, hr1], fun S' e' m' hm => ?_⟩
            obtain ⟨k', rfl⟩ : ∃ k, m' = k + 1 := ⟨m' - 1, by omega⟩
            rw [show setS (t :: P ++ S') (setS (t :: S) r) = setS (t :: (P ++ S')) r from rfl, hstep]
            exact k S' e' k' (by simp only [List.cons_append, List.length_cons] at hm; omega)
          · rcases i2 x h with h | ⟨P, t', S0, hP, hp, k⟩
            · exact .inl h
            · refine .inr ⟨t :: P, t', S0, by rw [List.cons_append, <- hP, hr1], hp, fun S' e' m' hm => ?_⟩
              obtain ⟨k', rfl⟩ : ∃ k, m' = k + 1 := ⟨m' - 1, by omega⟩
              rw [show setS (t :: P ++ t' :: S') (setS (t :: S) r) = setS (t :: (P ++ t' :: S')) r from rfl, hstep]
              exact k S' e' k' (by simp only [List.cons_append, List.length_cons] at hm; omega)
structure Ft {α : Type} (f : Ps -> Rd -> Except Er α) (rs : α -> List Tk) (ps : List Tk -> α -> α) (r : Rd) (e : Ps) : Prop where
  ok : ∀ a, f e r = .ok a -> ∃ P, r.rest = P ++ rs a /\ ∀ S e', f e' (setS (P ++ S) r) = .ok (ps S a)
  er : ∀ x, f e r = .error x -> x.2 = 105 \/ ∃ P t S0, r.rest = P ++ t :: S0 /\ x.1 = t.p /\ ∀ S e', f e' (setS (P ++ t :: S) r) = .error x
theorem Ft.nil {α : Type} {f : Ps -> Rd -> Except Er α} {rs : α -> List Tk} {ps : List Tk -> α -> α} {r : Rd} {e : Ps} (h : f e r = .error (e, 105)) : Ft f rs ps r e :=
  ⟨fun a ha => (by rw [h] at ha; cases ha), fun x hx => .inl (by rw [h] at hx; cases hx; rfl)⟩
theorem name_cons (e : Ps) (r : Rd) (t : Tk) (S : List Tk) : name e (setS (t :: S) r) = (must (R.isNm t.t) t 101 >>= fun _ => must (!known r t.t) t 102 >>= fun _ => .ok { r with at_ := t, rest := S }) := rfl
theorem name_first (e : Ps) (r : Rd) : Ft name Rd.rest setS r e := by
  cases hr : r.rest with
  | nil => exact Ft.nil (by unfold name; rw [next_nil e r hr]; rfl)
  | cons t S =>
    have h0 : r = setS (t :: S) r := by rw [<- hr]; rfl
    have hc : ∀ S e', name e' (setS (t :: S) r) = _ := fun S e' => name_cons e' r t S
    have hme : ∀ (b : Bool) (c : Int) (f : Unit -> Re), (must b t c >>= f) = if b then f () else .error (t.p, c) := fun b c f => by unfold must; cases b <;> rfl
    have hcc : ∀ S e', name e' (setS (t :: S) r) = if R.isNm t.t then (if !known r t.t then .ok { r with at_ := t, rest := S } else .error (t.p, 102)) else .error (t.p, 101) := fun S e' => by rw [hc, hme, hme]
    have hr0 := hcc S e
    rw [<- h0] at hr0
    by_cases c1 : R.isNm t.t = true
    · by_cases c2 : (!known r t.t) = true
      · rw [if_pos c1, if_pos c2] at hr0
        refine ⟨fun a ha => ⟨[t], ?_, fun S' e' => ?_⟩, fun x hx => by rw [hr0] at hx; cases hx⟩
        · rw [hr0] at ha; cases ha; exact hr
        · rw [hr0] at ha; cases ha
          rw [show [t] ++ S' = t :: S' from rfl, hcc, if_pos c1, if_pos c2]
          rfl
      · rw [if_pos c1, if_neg c2] at hr0
        refine ⟨fun a ha => (by rw [hr0] at ha; cases ha), fun x hx => .inr ⟨[], t, S, hr, ?_, fun S' e' => ?_⟩⟩
        · rw [hr0] at hx; cases hx; rfl
        · rw [hr0] at hx
          rw [show [] ++ t :: S' = t :: S' from rfl, hcc, if_pos c1, if_neg c2]
          exact hx
    · rw [if_neg c1] at hr0
      refine ⟨fun a ha => (by rw [hr0] at ha; cases ha), fun x hx => .inr ⟨[], t, S, hr, ?_, fun S' e' => ?_⟩⟩
      · rw [hr0] at hx; cases hx; rfl
      · rw [hr0] at hx
        rw [show [] ++ t :: S' = t :: S' from rfl, hcc, if_neg c1]
        exact hx
theorem word_eq (e : Ps) (r : Rd) : word pr e r = (name e r >>= fun r1 => bodyN pr e (r1.rest.length + 1) { r1 with body := [], opn := [], ended := false } >>= fun r2 => .ok (define 1 r1.at_ 0 r2.body r2)) := rfl
theorem word_first (e : Ps) (r : Rd) : Ft (word pr) Rd.rest setS r e := by
  have hN := name_first e r
  cases hn : name e r with
  | error x =>
    have hw : ∀ e' S, name e' (setS S r) = .error x -> word pr e' (setS S r) = .error x := fun e' S h => by rw [word_eq, h]; rfl
    have h0 : word pr e r = .error x := by rw [word_eq, hn]; rfl
    refine ⟨fun a ha => (by rw [h0] at ha; cases ha), fun y hy => ?_⟩
    rw [h0] at hy
    cases hy
    rcases hN.er x hn with h | ⟨P, t, S0, h1, h2, h3⟩
    · exact .inl h
    · exact .inr ⟨P, t, S0, h1, h2, fun S e' => hw e' _ (h3 S e')⟩
  | ok r1 =>
    obtain ⟨P, hP, hk⟩ := hN.ok r1 hn
    have hB := body_first pr e (r1.rest.length + 1) { r1 with body := [], opn := [], ended := false } (Nat.le_refl _)
    have h0 : word pr e r = (bodyN pr e (r1.rest.length + 1) { r1 with body := [], opn := [], ended := false } >>= fun r2 => .ok (define 1 r1.at_ 0 r2.body r2)) := by rw [word_eq, hn]; rfl
    have hw : ∀ e' S, word pr e' (setS (P ++ S) r) = (bodyN pr e' (S.length + 1) (setS S { r1 with body := [], opn := [], ended := false }) >>= fun r2 => .ok (define 1 r1.at_ 0 r2.body r2)) := fun e' S => by rw [word_eq, hk S e']; rfl
    cases hb : bodyN pr e (r1.rest.length + 1) { r1 with body := [], opn := [], ended := false } with
    | error x =>
      rw [hb] at h0
      have h0' : word pr e r = .error x := h0
      refine ⟨fun a ha => (by rw [h0'] at ha; cases ha), fun y hy => ?_⟩
      rw [h0'] at hy
      cases hy
      rcases hB.2 x hb with h | ⟨P2, t, S0, h1, h2, h3⟩
      · exact .inl h
      · refine .inr ⟨P ++ P2, t, S0, by rw [hP]; simp only at h1; rw [h1]; simp, h2, fun S e' => ?_⟩
        rw [List.append_assoc, hw, h3 S e' _ (Nat.le_refl _)]
        rfl
    | ok r2 =>
      rw [hb] at h0
      have h0' : word pr e r = .ok (define 1 r1.at_ 0 r2.body r2) := h0
      obtain ⟨P2, hP2, hk2⟩ := hB.1 r2 hb
      refine ⟨fun a ha => ?_, fun y hy => by rw [h0'] at hy; cases hy⟩
      rw [h0'] at ha
      cases ha
      refine ⟨P ++ P2, by rw [hP]; simp only at hP2; rw [hP2]; simp [define], fun S e' => ?_⟩
      rw [List.append_assoc, hw, hk2 S e' _ (Nat.le_refl _)]
      rfl
theorem data_one (e : Ps) (m : Nat) (d : List UInt8) (r : Rd) (t : Tk) (S : List Tk) : dataN e (m + 1) d (setS (t :: S) r) = if isW t.t [125] then .ok (d, { r with at_ := t, rest := S }) else (must (t.k == 2 && decide (t.v <= 255) && decide (d.length < 16384)) t 106 >>= fun _ => dataN e m (d ++ [UInt8.ofNat t.v.toNat]) { r with at_ := t, rest := S }) := rfl
theorem data_first (e : Ps) : ∀ (m : Nat) (d : List UInt8) (r : Rd), r.rest.length + 1 <= m ->
    (∀ a, dataN e m d r = .ok a -> ∃ P, r.rest = P ++ a.2.rest /\ ∀ S e' m', (P ++ S).length + 1 <= m' -> dataN e' m' d (setS (P ++ S) r) = .ok (a.1, setS S a.2)) /\
    (∀ x, dataN e m d r = .error x -> x.2 = 105 \/ ∃ P t S0, r.rest = P ++ t :: S0 /\ x.1 = t.p /\ ∀ S e' m', (P ++ t :: S).length + 1 <= m' -> dataN e' m' d (setS (P ++ t :: S) r) = .error x)
  | 0, d, r, h => absurd h (by omega)
  | m + 1, d, r, h => by
    cases hr : r.rest with
    | nil =>
      have h1 : dataN e (m + 1) d r = .error (e, 105) := by rw [dataN, next_nil e r hr]; rfl
      rw [h1]
      exact ⟨fun r' h => (by cases h), fun x h => .inl (by cases h; rfl)⟩
    | cons t S =>
      have h0 : r = setS (t :: S) r := by rw [<- hr]; rfl
      have hl : S.length + 1 <= m := by rw [hr, List.length_cons] at h; omega
      have hone : ∀ S' e' k, dataN e' (k + 1) d (setS (t :: S') r) = _ := fun S' e' k => data_one e' k d r t S'
      have h00 := hone S e m
      rw [<- h0] at h00
      by_cases c1 : isW t.t [125] = true
      · rw [if_pos c1] at h00
        refine ⟨fun a ha => ⟨[t], ?_, fun S' e' m' hm => ?_⟩, fun x hx => by rw [h00] at hx; cases hx⟩
        · rw [h00] at ha; cases ha; rfl
        · rw [h00] at ha; cases ha
          obtain ⟨k', rfl⟩ : ∃ k, m' = k + 1 := ⟨m' - 1, by omega⟩
          rw [show [t] ++ S' = t :: S' from rfl, hone, if_pos c1]
          rfl
      · rw [if_neg c1] at h00
        cases hb : (t.k == 2 && decide (t.v <= 255) && decide (d.length < 16384)) with
        | false =>
          have hm0 : ∀ f : Unit -> Except Er (List UInt8 × Rd), (must false t 106 >>= f) = .error (t.p, 106) := fun f => rfl
          rw [hb, hm0] at h00
          refine ⟨fun a ha => (by rw [h00] at ha; cases ha), fun x hx => .inr ⟨[], t, S, rfl, ?_, fun S' e' m' hm => ?_⟩⟩
          · rw [h00] at hx; cases hx; rfl
          · obtain ⟨k', rfl⟩ : ∃ k, m' = k + 1 := ⟨m' - 1, by omega⟩
            rw [h00] at hx
            rw [show [] ++ t :: S' = t :: S' from rfl, hone, if_neg c1, hb, hm0]
            exact hx
        | true =>
          have hm1 : ∀ f : Unit -> Except Er (List UInt8 × Rd), (must true t 106 >>= f) = f () := fun f => rfl
          rw [hb, hm1] at h00
          obtain ⟨i1, i2⟩ := data_first e m (d ++ [UInt8.ofNat t.v.toNat]) { r with at_ := t, rest := S } hl
          have hstep : ∀ S' e' k, dataN e' (k + 1) d (setS (t :: S') r) = dataN e' k (d ++ [UInt8.ofNat t.v.toNat]) (setS S' { r with at_ := t, rest := S }) := fun S' e' k => by rw [hone, if_neg c1, hb, hm1]; rfl
          refine ⟨fun a ha => ?_, fun x hx => ?_⟩
          · rw [h00] at ha
            obtain ⟨P, hP, k⟩ := i1 a ha
            refine ⟨t :: P, by rw [List.cons_append, <- hP], fun S' e' m' hm => ?_⟩
            obtain ⟨k', rfl⟩ : ∃ k, m' = k + 1 := ⟨m' - 1, by omega⟩
            rw [List.cons_append, hstep]
            exact k S' e' k' (by simp only [List.cons_append, List.length_cons] at hm; omega)
          · rw [h00] at hx
            rcases i2 x hx with h | ⟨P, t', S0, hP, hp, k⟩
            · exact .inl h
            · refine .inr ⟨t :: P, t', S0, by rw [List.cons_append, <- hP], hp, fun S' e' m' hm => ?_⟩
              obtain ⟨k', rfl⟩ : ∃ k, m' = k + 1 := ⟨m' - 1, by omega⟩
              rw [List.cons_append, hstep]
              exact k S' e' k' (by simp only [List.cons_append, List.length_cons] at hm; omega)
end
structure Fn (f : Ps -> Rd -> Re) (r : Rd) (e : Ps) (C : Er -> Prop) : Prop where
  ok : ∀ a, f e r = .ok a -> ∃ P, r.rest = P ++ a.rest /\ ∀ S e', f e' (setS (P ++ S) r) = .ok (setS S a)
  er : ∀ x, f e r = .error x -> x.2 = 105 \/ (∃ P t S0, r.rest = P ++ t :: S0 /\ x.1 = t.p /\ ∀ S e', f e' (setS (P ++ t :: S) r) = .error x) \/ C x
theorem Fn.of {f : Ps -> Rd -> Re} {r : Rd} {e : Ps} {C : Er -> Prop} (h : Ft f Rd.rest setS r e) : Fn f r e C := ⟨h.ok, fun x hx => (h.er x hx).elim .inl fun h => .inr (.inl h)⟩
theorem Fn.step {f g : Ps -> Rd -> Re} {r : Rd} {t : Tk} {S : List Tk} {e : Ps} {C : Er -> Prop} (hr : r.rest = t :: S) (hf : ∀ S' e', f e' (setS (t :: S') r) = g e' { r with at_ := t, rest := S' }) (hg : Fn g { r with at_ := t, rest := S } e C) : Fn f r e C := by
  have h0 : f e r = g e { r with at_ := t, rest := S } := by
    have := hf S e
    rwa [show setS (t :: S) r = r by rw [<- hr]; rfl] at this
  refine ⟨fun a ha => ?_, fun x hx => ?_⟩
  · rw [h0] at ha
    obtain ⟨P, hP, k⟩ := hg.ok a ha
    refine ⟨t :: P, by rw [hr, List.cons_append, <- hP], fun S' e' => ?_⟩
    rw [List.cons_append, hf]
    exact k S' e'
  · rw [h0] at hx
    rcases hg.er x hx with h | ⟨P, t', S0, hP, hp, k⟩ | h
    · exact .inl h
    · refine .inr (.inl ⟨t :: P, t', S0, by rw [hr, List.cons_append, <- hP], hp, fun S' e' => ?_⟩)
      rw [List.cons_append, hf]
      exact k S' e'
    · exact .inr (.inr h)
theorem Fn.now {f : Ps -> Rd -> Re} {r : Rd} {t : Tk} {S : List Tk} {e : Ps} {C : Er -> Prop} {x : Er} (hr : r.rest = t :: S) (hf : ∀ S' e', f e' (setS (t :: S') r) = .error x) (hx : x.1 = t.p) : Fn f r e C := by
  have h0 : f e r = .error x := by
    have := hf S e
    rwa [show setS (t :: S) r = r by rw [<- hr]; rfl] at this
  refine ⟨fun a ha => (by rw [h0] at ha; cases ha), fun y hy => .inr (.inl ⟨[], t, S, hr, ?_, fun S' e' => ?_⟩)⟩
  · rw [h0] at hy; cases hy; exact hx
  · rw [h0] at hy; cases hy
    exact hf S' e'
theorem Fn.else {f : Ps -> Rd -> Re} {r : Rd} {e : Ps} {C : Er -> Prop} {x : Er} (h0 : f e r = .error x) (hx : C x) : Fn f r e C :=
  ⟨fun a ha => (by rw [h0] at ha; cases ha), fun y hy => .inr (.inr (by rw [h0] at hy; cases hy; exact hx))⟩
theorem Fn.nil {f : Ps -> Rd -> Re} {r : Rd} {e : Ps} {C : Er -> Prop} (h : f e r = .error (e, 105)) : Fn f r e C :=
  ⟨fun a ha => (by rw [h] at ha; cases ha), fun x hx => .inl (by rw [h] at hx; cases hx; rfl)⟩
theorem Fn.weak {f : Ps -> Rd -> Re} {r : Rd} {e : Ps} {C C' : Er -> Prop} (h : Fn f r e C) (k : ∀ x, C x -> C' x) : Fn f r e C' := ⟨h.ok, fun x hx => by
  rcases h.er x hx with h | h | h
  · exact .inl h
  · exact .inr (.inl h)
  · exact .inr (.inr (k x h))⟩
theorem define_first (k v : Int) (r : Rd) (e : Ps) (C : Er -> Prop) : Fn (fun e r => name e r >>= fun r1 => .ok (define k r1.at_ v [] r1)) r e C := by
  have h := name_first e r
  cases hn : name e r with
  | error x =>
    have h0 : (name e r >>= fun r1 => (.ok (define k r1.at_ v [] r1) : Re)) = .error x := by rw [hn]; rfl
    refine ⟨fun a ha => ?_, fun y hy => ?_⟩
    · have : (Except.error x : Re) = .ok a := h0.symm.trans ha
      cases this
    · have : (Except.error x : Re) = .error y := h0.symm.trans hy
      cases this
      rcases h.er x hn with h | ⟨P, t, S0, h1, h2, h3⟩
      · exact .inl h
      · exact .inr (.inl ⟨P, t, S0, h1, h2, fun S e' => by show (name e' _ >>= _) = _; rw [h3 S e']; rfl⟩)
  | ok r1 =>
    obtain ⟨P, hP, hk⟩ := h.ok r1 hn
    have h0 : (name e r >>= fun r1 => (.ok (define k r1.at_ v [] r1) : Re)) = .ok (define k r1.at_ v [] r1) := by rw [hn]; rfl
    refine ⟨fun a ha => ?_, fun y hy => ?_⟩
    · have : (Except.ok (define k r1.at_ v [] r1) : Re) = .ok a := h0.symm.trans ha
      cases this
      exact ⟨P, hP, fun S e' => by show (name e' _ >>= _) = _; rw [hk S e']; rfl⟩
    · have : (Except.ok (define k r1.at_ v [] r1) : Re) = .error y := h0.symm.trans hy
      cases this
theorem mustR (b : Bool) (t : Tk) (c : Int) (f : Unit -> Re) : (must b t c >>= f) = if b then f () else .error (t.p, c) := by unfold must; cases b <;> rfl
theorem bank_first (num : Tk) (r : Rd) (e : Ps) : Fn (fun e r => bank e num r) r e (fun x => x.1 = num.p) := by
  by_cases c1 : decide (num.v < 16) = true
  case neg =>
    have h0 : bank e num r = .error (num.p, 106) := by unfold bank; rw [mustR, if_neg c1]
    exact Fn.else h0 rfl
  by_cases c2 : (!(r.banks.any fun b => b.1 == num.v)) = true
  case neg =>
    have h0 : bank e num r = .error (num.p, 102) := by unfold bank; rw [mustR, if_pos c1, mustR, if_neg c2]
    exact Fn.else h0 rfl
  have hb : ∀ S e', bank e' num (setS S r) = (next e' (setS S r) >>= fun r => must (isW r.at_.t [123]) r.at_ 104 >>= fun _ => dataN e' (r.rest.length + 1) [] r >>= fun x => .ok { x.2 with banks := x.2.banks ++ [(num.v, x.1)] }) := fun S e' => by
    unfold bank
    rw [mustR, if_pos c1, mustR, if_pos (show (!((setS S r).banks.any fun b => b.1 == num.v)) = true from c2)]
  cases hr : r.rest with
  | nil =>
    have h0 : bank e num r = .error (e, 105) := by
      have := hb r.rest e
      rw [setS_self, next_nil e r hr] at this
      rw [this]; rfl
    exact Fn.nil h0
  | cons t S =>
    by_cases c3 : isW t.t [123] = true
    case neg => exact Fn.now (x := (t.p, 104)) hr (fun S' e' => by show bank e' num _ = _; rw [hb, next_cons]; show (must (isW t.t [123]) t 104 >>= _) = _; rw [mustR, if_neg c3]) rfl
    refine Fn.step (g := fun e r => dataN e (r.rest.length + 1) [] r >>= fun x => .ok { x.2 with banks := x.2.banks ++ [(num.v, x.1)] }) hr (fun S' e' => by show bank e' num _ = _; rw [hb, next_cons]; show (must (isW t.t [123]) t 104 >>= _) = _; rw [mustR, if_pos c3]) ?_
    have hD := data_first e (S.length + 1) [] { r with at_ := t, rest := S } (Nat.le_refl _)
    cases hd : dataN e (S.length + 1) [] { r with at_ := t, rest := S } with
    | error x =>
      have h0 : (dataN e (S.length + 1) [] { r with at_ := t, rest := S } >>= fun x => (.ok { x.2 with banks := x.2.banks ++ [(num.v, x.1)] } : Re)) = .error x := by rw [hd]; rfl
      refine ⟨fun a ha => ?_, fun y hy => ?_⟩
      · have : (Except.error x : Re) = .ok a := h0.symm.trans ha
        cases this
      · have : (Except.error x : Re) = .error y := h0.symm.trans hy
        cases this
        rcases hD.2 x hd with h | ⟨P, t', S0, h1, h2, h3⟩
        · exact .inl h
        · exact .inr (.inl ⟨P, t', S0, h1, h2, fun S' e' => by show (dataN e' ((P ++ t' :: S').length + 1) _ _ >>= _) = _; rw [h3 S' e' _ (Nat.le_refl _)]; rfl⟩)
    | ok y =>
      obtain ⟨P, hP, hk⟩ := hD.1 y hd
      have h0 : (dataN e (S.length + 1) [] { r with at_ := t, rest := S } >>= fun x => (.ok { x.2 with banks := x.2.banks ++ [(num.v, x.1)] } : Re)) = .ok { y.2 with banks := y.2.banks ++ [(num.v, y.1)] } := by rw [hd]; rfl
      refine ⟨fun a ha => ?_, fun z hz => ?_⟩
      · have : (Except.ok { y.2 with banks := y.2.banks ++ [(num.v, y.1)] } : Re) = .ok a := h0.symm.trans ha
        cases this
        exact ⟨P, hP, fun S' e' => by show (dataN e' ((P ++ S').length + 1) _ _ >>= _) = _; rw [hk S' e' _ (Nat.le_refl _)]; rfl⟩
      · have : (Except.ok { y.2 with banks := y.2.banks ++ [(num.v, y.1)] } : Re) = .error z := h0.symm.trans hz
        cases this
def bb (t : Tk) : Prop := isW t.t [98, 117, 102, 102, 101, 114] = true \/ isW t.t [98, 97, 110, 107] = true
def NumC (num : Tk) (l : List Tk) (x : Er) : Prop := x.1 = num.p /\ ∃ t2 S0, l = t2 :: S0 /\ bb t2
theorem numbered_first (num : Tk) (r : Rd) (e : Ps) : Fn (fun e r => numbered e num r) r e (NumC num r.rest) := by
  cases hr : r.rest with
  | nil => exact Fn.nil (by show numbered e num r = _; unfold numbered; rw [next_nil e r hr]; rfl)
  | cons t S =>
    by_cases c1 : isW t.t [99, 111, 110, 115, 116, 97, 110, 116] = true
    · refine Fn.step hr (fun S' e' => ?_) (define_first 2 num.v _ e _)
      show numbered e' num _ = _
      unfold numbered
      rw [next_cons]
      show (if isW t.t [99, 111, 110, 115, 116, 97, 110, 116] then _ else _) = _
      rw [if_pos c1]
    · by_cases c2 : isW t.t [98, 117, 102, 102, 101, 114] = true
      · have hb : ∀ S' e', numbered e' num (setS (t :: S') r) = (must (decide (num.v <= 16384)) num 106 >>= fun _ => name e' { r with at_ := t, rest := S' } >>= fun r => .ok (define 3 r.at_ num.v [] r)) := fun S' e' => by
          unfold numbered
          rw [next_cons]
          show (if isW t.t [99, 111, 110, 115, 116, 97, 110, 116] then _ else if isW t.t [98, 117, 102, 102, 101, 114] then _ else _) = _
          rw [if_neg c1, if_pos c2]
        by_cases c3 : decide (num.v <= 16384) = true
        · refine Fn.step hr (fun S' e' => ?_) (define_first 3 num.v _ e _)
          show numbered e' num _ = _
          rw [hb, mustR, if_pos c3]
        · have h0 : numbered e num r = .error (num.p, 106) := by
            have := hb S e
            rw [show setS (t :: S) r = r by rw [<- hr]; rfl, mustR, if_neg c3] at this
            exact this
          exact Fn.else h0 ⟨rfl, t, S, rfl, .inl c2⟩
      · by_cases c3 : isW t.t [98, 97, 110, 107] = true
        · refine Fn.step hr (fun S' e' => ?_) ((bank_first num _ e).weak fun x hx => ⟨hx, t, S, rfl, .inr c3⟩)
          show numbered e' num _ = _
          unfold numbered
          rw [next_cons]
          show (if isW t.t [99, 111, 110, 115, 116, 97, 110, 116] then _ else if isW t.t [98, 117, 102, 102, 101, 114] then _ else if isW t.t [98, 97, 110, 107] then _ else _) = _
          rw [if_neg c1, if_neg c2, if_pos c3]
        · refine Fn.now (x := (t.p, 100)) hr (fun S' e' => ?_) rfl
          show numbered e' num _ = _
          unfold numbered
          rw [next_cons]
          show (if isW t.t [99, 111, 110, 115, 116, 97, 110, 116] then _ else if isW t.t [98, 117, 102, 102, 101, 114] then _ else if isW t.t [98, 97, 110, 107] then _ else _) = _
          rw [if_neg c1, if_neg c2, if_neg c3]
def NumI (l : List Tk) (x : Er) : Prop := ∃ t t2 S0, l = t :: t2 :: S0 /\ x.1 = t.p /\ t.k = 2 /\ bb t2
section
variable (pr : ByteArray -> Option Int)
theorem item_first (r : Rd) (e : Ps) : Fn (fun e r => item pr e r) r e (NumI r.rest) := by
  cases hr : r.rest with
  | nil => exact Fn.nil (by show item pr e r = _; unfold item; rw [next_nil e r hr]; rfl)
  | cons t S =>
    have hi : ∀ S' e', item pr e' (setS (t :: S') r) = if t.k == 2 then numbered e' t { r with at_ := t, rest := S' } else if isW t.t [58] then word pr e' { r with at_ := t, rest := S' } else if isW t.t [118, 97, 114, 105, 97, 98, 108, 101] then (name e' { r with at_ := t, rest := S' } >>= fun r => .ok (define 3 r.at_ 2 [] r)) else .error (t.p, 100) := fun S' e' => by
      unfold item
      rw [next_cons]
      rfl
    by_cases c1 : (t.k == 2) = true
    · refine Fn.step hr (fun S' e' => ?_) ((numbered_first t _ e).weak fun x hx => ?_)
      · show item pr e' _ = _
        rw [hi, if_pos c1]
      · obtain ⟨h1, t2, S0, h2, h3⟩ := hx
        exact ⟨t, t2, S0, by rw [<- h2], h1, by simpa using c1, h3⟩
    · by_cases c2 : isW t.t [58] = true
      · refine Fn.step (g := fun e r => word pr e r) hr (fun S' e' => ?_) (Fn.of (word_first pr e _))
        show item pr e' _ = _
        rw [hi, if_neg c1, if_pos c2]
      · by_cases c3 : isW t.t [118, 97, 114, 105, 97, 98, 108, 101] = true
        · refine Fn.step hr (fun S' e' => ?_) (define_first 3 2 _ e _)
          show item pr e' _ = _
          rw [hi, if_neg c1, if_neg c2, if_pos c3]
        · refine Fn.now (x := (t.p, 100)) hr (fun S' e' => ?_) rfl
          show item pr e' _ = _
          rw [hi, if_neg c1, if_neg c2, if_neg c3]
theorem item_less (r r' : Rd) (e : Ps) (h : item pr e r = .ok r') : ∃ t P, r.rest = t :: P ++ r'.rest /\ ∀ S e', item pr e' (setS (t :: P ++ S) r) = .ok (setS S r') := by
  obtain ⟨P, hP, k⟩ := (item_first pr r e).ok r' h
  cases P with
  | nil =>
    have h1 := k [] e
    have h2 : item pr e (setS [] r) = .error (e, 105) := by unfold item; rw [next_nil e (setS [] r) rfl]; rfl
    have h3 : item pr e (setS ([] ++ []) r) = .ok (setS [] r') := h1
    rw [List.nil_append, h2] at h3
    cases h3
  | cons t P => exact ⟨t, P, hP, k⟩
theorem items_first (e : Ps) : ∀ (m : Nat) (r : Rd), r.rest.length + 1 <= m -> ∀ x, itemsN pr e m r = .error x ->
    x.2 = 105 \/ (∃ P t S0, r.rest = P ++ t :: S0 /\ x.1 = t.p /\ ∀ S e' m', (P ++ t :: S).length + 1 <= m' -> itemsN pr e' m' (setS (P ++ t :: S) r) = .error x) \/ ∃ P t t2 S0, r.rest = P ++ t :: t2 :: S0 /\ x.1 = t.p /\ t.k = 2 /\ bb t2
  | 0, r, h => absurd h (by omega)
  | m + 1, r, h => fun x hx => by
    rw [itemsN] at hx
    by_cases hem : r.rest.isEmpty = true
    · rw [if_pos hem] at hx; cases hx
    · rw [if_neg hem] at hx
      have hone : ∀ (t : Tk) (S : List Tk) e' k, itemsN pr e' (k + 1) (setS (t :: S) r) = (item pr e' (setS (t :: S) r) >>= fun r => itemsN pr e' k r) := fun t S e' k => by
        rw [itemsN, if_neg (by simp [setS])]
      cases hi : item pr e r with
      | error y =>
        rw [hi] at hx
        have : (Except.error y : Re) = .error x := hx
        cases this
        rcases (item_first pr r e).er x hi with h1 | ⟨P, t, S0, h1, h2, h3⟩ | ⟨t, t2, S0, h1, h2, h3, h4⟩
        · exact .inl h1
        · refine .inr (.inl ⟨P, t, S0, h1, h2, fun S e' m' hm => ?_⟩)
          obtain ⟨k', rfl⟩ : ∃ k, m' = k + 1 := ⟨m' - 1, by omega⟩
          obtain ⟨u, U, hU⟩ : ∃ u U, P ++ t :: S = u :: U := by cases P <;> exact ⟨_, _, rfl⟩
          have h3' : item pr e' (setS (P ++ t :: S) r) = .error x := h3 S e'
          rw [hU] at h3' ⊢
          rw [hone, h3']
          rfl
        · exact .inr (.inr ⟨[], t, t2, S0, h1, h2, h3, h4⟩)
      | ok r1 =>
        rw [hi] at hx
        have hx' : itemsN pr e m r1 = .error x := hx
        obtain ⟨u, U, hU, hk⟩ := item_less pr r r1 e hi
        have hl : r1.rest.length + 1 <= m := by
          rw [hU] at h
          simp only [List.cons_append, List.length_cons, List.length_append] at h
          omega
        rcases items_first e m r1 hl x hx' with h1 | ⟨P, t, S0, h1, h2, h3⟩ | ⟨P, t, t2, S0, h1, h2, h3, h4⟩
        · exact .inl h1
        · refine .inr (.inl ⟨u :: U ++ P, t, S0, by rw [hU, h1, List.append_assoc], h2, fun S e' m' hm => ?_⟩)
          obtain ⟨k', rfl⟩ : ∃ k, m' = k + 1 := ⟨m' - 1, by omega⟩
          have hk' := hk (P ++ t :: S) e'
          rw [<- List.append_assoc, List.cons_append, List.cons_append] at hk'
          rw [List.cons_append, List.cons_append, hone, hk']
          exact h3 S e' k' (by simp only [List.cons_append, List.length_cons, List.length_append] at hm ⊢; omega)
        · exact .inr (.inr ⟨u :: U ++ P, t, t2, S0, by rw [hU, h1, List.append_assoc], h2, h3, h4⟩)
theorem read_first (e : Ps) (ts : List Tk) (x : Er) (h : D.read pr e ts = .error x) : x.2 = 105 \/ x.2 = 107 \/ (∃ P t S0, ts = P ++ t :: S0 /\ x.1 = t.p /\ ∀ S e', D.read pr e' (P ++ t :: S) = .error x) \/ ∃ P t t2 S0, ts = P ++ t :: t2 :: S0 /\ x.1 = t.p /\ t.k = 2 /\ bb t2 := by
  have hu : ∀ (ts : List Tk) e, D.read pr e ts = (itemsN pr e (ts.length + 1) ⟨ts, [], [], ⟨0, e0, 0, (0, 0)⟩, [], [], false⟩ >>= fun r => if r.defs.any R.isMain then .ok (r.defs, r.banks.mergeSort fun a b => decide (a.1 <= b.1)) else .error (e, 107)) := fun ts e => rfl
  rw [hu] at h
  cases hi : itemsN pr e (ts.length + 1) ⟨ts, [], [], ⟨0, e0, 0, (0, 0)⟩, [], [], false⟩ with
  | ok r =>
    rw [hi] at h
    have h' : (if r.defs.any R.isMain then (.ok (r.defs, r.banks.mergeSort fun a b => decide (a.1 <= b.1)) : Except Er _) else .error (e, 107)) = .error x := h
    by_cases c : r.defs.any R.isMain = true
    · rw [if_pos c] at h'; cases h'
    · rw [if_neg c] at h'; cases h'; exact .inr (.inl rfl)
  | error y =>
    rw [hi] at h
    have : (Except.error y : Except Er (List Df × List (Int × List UInt8))) = .error x := h
    cases this
    rcases items_first pr e (ts.length + 1) ⟨ts, [], [], ⟨0, e0, 0, (0, 0)⟩, [], [], false⟩ (Nat.le_refl _) x hi with h1 | ⟨P, t, S0, h1, h2, h3⟩ | h1
    · exact .inl h1
    · refine .inr (.inr (.inl ⟨P, t, S0, h1, h2, fun S e' => ?_⟩))
      have h3' := h3 S e' _ (Nat.le_refl _)
      rw [hu]
      rw [show (⟨P ++ t :: S, [], [], ⟨0, e0, 0, (0, 0)⟩, [], [], false⟩ : Rd) = setS (P ++ t :: S) ⟨ts, [], [], ⟨0, e0, 0, (0, 0)⟩, [], [], false⟩ from rfl, h3']
      rfl
    · exact .inr (.inr (.inr h1))
end
end Go.Proofs.YtdnklgceghllaaaGreatDoor.M
