import Derived.Test.YtlilefhmohkfkaaGreatDoorRChk
import Derived.Test.YtlilefhmohkfkaaGreatDoorEInv
namespace Go.Proofs.YtlilefhmohkfkaaGreatDoor.E
open Go.RowKit
open Go.Proofs.YtlilefhmohkfkaaGreatDoor.Y (Nd Df Ps w_in)
set_option linter.unusedVariables false
set_option linter.unusedSimpArgs false
set_option maxHeartbeats 1000000
abbrev RX := Rw × Rs
def toI (l : List UInt8) : List Int := l.map fun b => ((b.toNat : Nat) : Int)
def rwOf (w : Wk) : Rw := ⟨w.i, w.d, w.r, !w.nv, w.lf, 0, (0, 0)⟩
def rsOf (s : St) : Rs := ⟨s.h, toI s.own, s.dead⟩
def rgr (w : Rw) (i d r : Int) (p : Ps) : Rw := rmost { w with i := max w.i i, d := max w.d d, r := max w.r r } p
def rstep (x : RX) (a b : Int) (p : Ps) : RX := (rgr x.1 (wrap64 (a - x.2.h)) (wrap64 (wrap64 (x.2.h - a) + b)) (x.2.own.length : Int) p, { x.2 with h := wrap64 (wrap64 (x.2.h - a) + b) })
def rlast (l : List Int) (n : Nat) : Int := if l.length <= n then 0 else l.getD (l.length - 1 - n) 0
def rok (op : Int) (l : List Int) : Bool := if op = 56 \/ op = 57 then rlast l 0 == 4 else if op = 58 then rlast l 0 == 3 else if op = 59 then rlast l 2 == 3 else true
def rown (op : Int) (l : List Int) : List Int := if op = 55 then l ++ [4] else if op = 56 then l.take (l.length - 1) else l
def rprim (op : Int) (p : Ps) (x : RX) : RX :=
  if rok op x.2.own = false then (rfail x.1 152 p, x.2) else
  ((rstep (x.1, { x.2 with own := rown op x.2.own }) (P.ri op.toNat) (P.ro op.toNat) p).1, { (rstep (x.1, { x.2 with own := rown op x.2.own }) (P.ri op.toNat) (P.ro op.toNat) p).2 with dead := decide (op = 11) })
def rcall (t : Option Ty) (p : Ps) (x : RX) : RX :=
  match t with
  | none => rstep x 0 1 p
  | some t => if t.e = 0 then (rgr x.1 (wrap64 (t.i - x.2.h)) (wrap64 (x.2.h + t.d)) (wrap64 ((x.2.own.length : Int) + 1 + t.r)) p, { x.2 with h := wrap64 (wrap64 (x.2.h - t.i) + t.o), dead := t.nv }) else (rfail x.1 t.e p, x.2)
def rend1 (w : Rw) (s : Rs) (p : Ps) : Rw := if s.own = [] then w else rfail w 152 p
def rend2 (w : Rw) (s : Rs) (p : Ps) : Rw := if w.ex = true /\ w.xh ≠ s.h then rfail w 150 p else w
def rend3 (w : Rw) (s : Rs) : Rw := if w.ex = true then w else { w with ex := true, xh := s.h }
def rends (x : RX) (p : Ps) : RX := (rend3 (rend2 (rend1 x.1 x.2 p) x.2 p) x.2, { x.2 with dead := true })
def ralike (a b : Rs) : Bool := a.h == b.h && decide (a.own = b.own)
def rmust (w : Rw) (a b : Rs) (e : Int) (p : Ps) : Rw := if a.dead = true \/ ralike a b = true then w else rfail w e p
def rrun : List (RX -> RX) -> RX -> RX
  | [], x => x
  | f :: r, x => if x.2.dead = true \/ x.1.e ≠ 0 then x else rrun r (f x)
def rif1 (th : RX -> RX) (p : Ps) (y : RX) : RX := (rmust (th y).1 (th y).2 y.2 150 p, y.2)
def rif2 (th el : RX -> RX) (p : Ps) (y : RX) : RX := if (th y).2.dead = true then el ((th y).1, y.2) else (rmust (el ((th y).1, y.2)).1 (el ((th y).1, y.2)).2 (th y).2 150 p, (th y).2)
def runt (th : RX -> RX) (p : Ps) (x : RX) : RX := if (th x).2.dead = true then th x else (rmust (rstep (th x) 1 0 p).1 (rstep (th x) 1 0 p).2 x.2 151 p, (rstep (th x) 1 0 p).2)
def rwhi (th el : RX -> RX) (p : Ps) (x : RX) : RX := if (th x).2.dead = true then th x else (rmust (el (rstep (th x) 1 0 p)).1 (el (rstep (th x) 1 0 p)).2 x.2 151 p, (rstep (th x) 1 0 p).2)
def raga (th : RX -> RX) (p : Ps) (x : RX) : RX := (rmust (th x).1 (th x).2 x.2 151 p, { (th x).2 with dead := true })
def rdo1 (th : RX -> RX) (p : Ps) (y : RX) : RX := if (th y).2.dead = true then th y else (rmust (th y).1 (th y).2 y.2 151 p, { y.2 with own := y.2.own.take (y.2.own.length - 2) })
def rnodeB (kn : ByteArray -> Option Ty) (k op : Int) (nm : ByteArray) (has : Bool) (p : Ps) (th el : RX -> RX) (x : RX) : RX :=
  if k = 1 then rprim op p x else if k = 2 then rstep x 0 1 p else if k = 3 then rcall (kn nm) p x else if k = 9 then rends x p else
  if k = 4 then (if has then rif2 th el p (rstep x 1 0 p) else rif1 th p (rstep x 1 0 p)) else if k = 5 then runt th p x else if k = 6 then rwhi th el p x else if k = 7 then raga th p x else
  rdo1 th p (rstep (x.1, { x.2 with own := x.2.own ++ [2, 3] }) 2 0 p)
def rnode (kn : ByteArray -> Option Ty) : Nd -> RX -> RX
  | ⟨k, op, v, nm, th, el, has, p⟩ => rnodeB kn k op nm has p (rrun (th.map (rnode kn))) (rrun (el.map (rnode kn)))
def rbody (kn : ByteArray -> Option Ty) (l : List Nd) : RX -> RX := rrun (l.map (rnode kn))
theorem rnode_is (kn : ByteArray -> Option Ty) (n : Nd) : rnode kn n = rnodeB kn n.k n.op n.nm n.has n.p (rbody kn n.th) (rbody kn n.el) := by cases n; rw [rnode]; rfl
theorem rbody_nil (kn : ByteArray -> Option Ty) (x : RX) : rbody kn [] x = x := rfl
theorem rbody_cons (kn : ByteArray -> Option Ty) (n : Nd) (r : List Nd) (x : RX) : rbody kn (n :: r) x = if x.2.dead = true \/ x.1.e ≠ 0 then x else rbody kn r (rnode kn n x) := rfl
theorem rbody_flt (kn : ByteArray -> Option Ty) : ∀ (l : List Nd) (x : RX), x.1.e ≠ 0 -> rbody kn l x = x
  | [], x, h => rfl
  | n :: r, x, h => by rw [rbody_cons, if_pos (.inr h)]
def rword (kn : ByteArray -> Option Ty) (d : Df) : Rw :=
  if (rbody kn d.body (rwOf w0, rsOf s0)).1.e = 0 /\ (rbody kn d.body (rwOf w0, rsOf s0)).2.dead = false then (rends (rbody kn d.body (rwOf w0, rsOf s0)) d.p).1 else (rbody kn d.body (rwOf w0, rsOf s0)).1
def rout (w : Rw) : Int := if w.ex = true then wrap64 (w.i + w.xh) else 0
def rtyW (d : Df) (w : Rw) : Ty := if w.e = 0 then (if 256 < rout w then ⟨d.nm, 0, 0, 0, 0, false, 153, d.p⟩ else ⟨d.nm, w.i, rout w, w.d, w.r, !w.ex, 0, (0, 0)⟩) else ⟨d.nm, 0, 0, 0, 0, false, w.e, w.p⟩
def rty (kn : ByteArray -> Option Ty) (d : Df) : Ty := rtyW d (rword kn d)
def LI (x : RX) : Prop := x.2.own.length <= 130 /\ (x.1.e = 0 -> x.2.own.length <= 128)
theorem rfail_e (w : Rw) (e : Int) (p : Ps) (h : w.e ≠ 0) : rfail w e p = w := if_neg h
theorem rfail_z (w : Rw) (e : Int) (p : Ps) (h : (rfail w e p).e = 0) (he : e ≠ 0) : False := by
  unfold rfail at h
  split at h
  · exact he h
  · rename_i h2; exact h2 h
theorem rmost_e (w : Rw) (p : Ps) (h : w.e ≠ 0) : rmost w p = w := by
  unfold rmost
  split
  · rfl
  · exact rfail_e w _ p h
theorem rmost_z (w : Rw) (p : Ps) (h : (rmost w p).e = 0) : rmay w = true /\ w.e = 0 := by
  unfold rmost at h
  split at h
  · rename_i hm; exact ⟨hm, h⟩
  · exact (rfail_z _ _ _ h (by decide)).elim
theorem rgr_z (w : Rw) (i d r : Int) (p : Ps) (h : (rgr w i d r p).e = 0) : r <= 128 /\ w.e = 0 := by
  obtain ⟨h1, h2⟩ := rmost_z _ _ h
  unfold rmay at h1
  simp only [Bool.and_eq_true, decide_eq_true_eq] at h1
  exact ⟨by omega, h2⟩
theorem rstep_li (x : RX) (a b : Int) (p : Ps) (h : x.2.own.length <= 130) : LI (rstep x a b p) := by
  refine ⟨h, fun e => ?_⟩
  have := (rgr_z _ _ _ _ _ e).1
  show x.2.own.length <= 128
  omega
theorem rmust_e (w : Rw) (a b : Rs) (e : Int) (p : Ps) (he : e ≠ 0) (h : (rmust w a b e p).e = 0) : w.e = 0 := by
  unfold rmust at h
  split at h
  · exact h
  · exact (rfail_z _ _ _ h he).elim
theorem rprim_li (op : Int) (p : Ps) (x : RX) (h : x.2.own.length <= 128) : LI (rprim op p x) := by
  unfold rprim
  split
  · exact ⟨by simp only; omega, fun _ => h⟩
  · have h1 : (rown op x.2.own).length <= 130 := by
      unfold rown
      split
      · rw [List.length_append]; simp; omega
      · split
        · rw [List.length_take]; omega
        · omega
    exact rstep_li (x.1, { x.2 with own := rown op x.2.own }) _ _ p h1
theorem rcall_li (t : Option Ty) (p : Ps) (x : RX) (h : x.2.own.length <= 128) : LI (rcall t p x) := by
  unfold rcall
  split
  · exact rstep_li _ _ _ _ (by omega)
  · split
    · exact ⟨by simp only; omega, fun _ => h⟩
    · exact ⟨by simp only; omega, fun _ => h⟩
theorem rrun_li : ∀ (fs : List (RX -> RX)), (∀ f ∈ fs, ∀ x : RX, x.2.own.length <= 128 -> LI (f x)) -> ∀ x, LI x -> LI (rrun fs x)
  | [], _, x, hx => hx
  | f :: r, h, x, hx => by
    rw [rrun]
    split
    · exact hx
    · rename_i hn
      have he : x.1.e = 0 := by
        by_cases e : x.1.e = 0
        · exact e
        · exact (hn (.inr e)).elim
      exact rrun_li r (fun g hg => h g (by simp [hg])) _ (h f (by simp) x (hx.2 he))
theorem rrun_flt : ∀ (fs : List (RX -> RX)) (x : RX), x.1.e ≠ 0 -> rrun fs x = x
  | [], x, h => rfl
  | f :: r, x, h => by rw [rrun, if_pos (.inr h)]
theorem rnodeB_li (kn : ByteArray -> Option Ty) (k op : Int) (nm : ByteArray) (has : Bool) (p : Ps) (th el : RX -> RX) (ht : ∀ x, LI x -> LI (th x)) (hl : ∀ x, LI x -> LI (el x)) (hlf : ∀ x : RX, x.1.e ≠ 0 -> el x = x) (x : RX) (h : x.2.own.length <= 128) : LI (rnodeB kn k op nm has p th el x) := by
  have hx : LI x := ⟨by omega, fun _ => h⟩
  unfold rnodeB
  split
  · exact rprim_li op p x h
  split
  · exact rstep_li _ _ _ _ (by omega)
  split
  · exact rcall_li _ _ _ h
  split
  · exact ⟨by show x.2.own.length <= 130; omega, fun _ => h⟩
  split
  · have hy : LI (rstep x 1 0 p) := rstep_li _ _ _ _ (by omega)
    have hyo : (rstep x 1 0 p).2.own.length <= 128 := h
    generalize rstep x 1 0 p = y at *
    have ha := ht y hy
    have hb := hl ((th y).1, y.2) ⟨hy.1, fun _ => hyo⟩
    split
    · unfold rif2
      split
      · exact hb
      · refine ⟨ha.1, fun e => ha.2 ?_⟩
        have e1 := rmust_e _ _ _ _ _ (by decide) e
        apply Decidable.byContradiction
        intro c
        rw [hlf ((th y).1, y.2) c] at e1
        exact c e1
    · exact ⟨hy.1, fun _ => hyo⟩
  split
  · unfold runt
    have ha := ht x hx
    split
    · exact ha
    · have hb := rstep_li (th x) 1 0 p ha.1
      exact ⟨hb.1, fun e => hb.2 (rmust_e _ _ _ _ _ (by decide) e)⟩
  split
  · unfold rwhi
    have ha := ht x hx
    split
    · exact ha
    · have hb := rstep_li (th x) 1 0 p ha.1
      refine ⟨hb.1, fun e => hb.2 ?_⟩
      have e1 := rmust_e _ _ _ _ _ (by decide) e
      apply Decidable.byContradiction
      intro c
      rw [hlf _ c] at e1
      exact c e1
  split
  · unfold raga
    have ha := ht x hx
    exact ⟨ha.1, fun e => ha.2 (rmust_e _ _ _ _ _ (by decide) e)⟩
  · have hy : LI (rstep (x.1, { x.2 with own := x.2.own ++ [2, 3] }) 2 0 p) := rstep_li _ _ _ _ (by simp only [List.length_append, List.length_cons, List.length_nil]; omega)
    generalize rstep (x.1, { x.2 with own := x.2.own ++ [2, 3] }) 2 0 p = y at *
    unfold rdo1
    have ha := ht y hy
    split
    · exact ha
    · have := hy.1
      exact ⟨by simp only [List.length_take]; omega, fun _ => by simp only [List.length_take]; omega⟩
theorem rnode_li (kn : ByteArray -> Option Ty) (n : Nd) : ∀ x : RX, x.2.own.length <= 128 -> LI (rnode kn n x) :=
  Nd.ind (P := fun n => ∀ x : RX, x.2.own.length <= 128 -> LI (rnode kn n x)) (fun n h1 h2 x hx => by
    rw [rnode_is]
    refine rnodeB_li kn _ _ _ _ _ _ _ (rrun_li _ fun f hf => ?_) (rrun_li _ fun f hf => ?_) (rrun_flt _) x hx
    · obtain ⟨m, hm, rfl⟩ := List.mem_map.1 hf
      exact h1 m hm
    · obtain ⟨m, hm, rfl⟩ := List.mem_map.1 hf
      exact h2 m hm) n
theorem rbody_li (kn : ByteArray -> Option Ty) (l : List Nd) : ∀ x : RX, LI x -> LI (rbody kn l x) := rrun_li _ fun f hf => by
  obtain ⟨m, hm, rfl⟩ := List.mem_map.1 hf
  exact rnode_li kn m
def OwI (x : X) : Prop := (x.2.own.length : Int) <= x.1.r
def Rel (r : Re) (y : RX) : Prop :=
  match r with
  | .error e => y.1.e = e.1 /\ y.1.p = e.2 /\ e.1 ≠ 0
  | .ok x => y.1 = rwOf x.1 /\ y.2.dead = x.2.dead /\ (x.2.dead = false -> y.2 = rsOf x.2 /\ OwI x)
theorem rmost_of (w : Wk) (p : Ps) : rmost (rwOf w) p = if may w then rwOf w else { rwOf w with e := 153, p := p } := by
  unfold rmost
  rw [show rmay (rwOf w) = may w from rfl]
  split
  · rfl
  · rfl
theorem rgr_of (w : Wk) (i d r : Int) (p : Ps) : rgr (rwOf w) i d r p = if may (grown w i d r) then rwOf (grown w i d r) else { rwOf (grown w i d r) with e := 153, p := p } := rmost_of (grown w i d r) p
theorem toI_len (l : List UInt8) : (toI l).length = l.length := by simp [toI]
theorem grow_rel (w : Wk) (i d r r' : Int) (p : Ps) (hr : max w.r r = max w.r r') : rgr (rwOf w) i d r p = match grow w i d r' p with | .error e => { rwOf (grown w i d r') with e := e.1, p := e.2 } | .ok w' => rwOf w' := by
  rw [rgr_of]
  have e : grown w i d r = grown w i d r' := by unfold grown; rw [hr]
  rw [e]
  unfold grow
  split <;> rfl
theorem grow_err {w : Wk} {i d r : Int} {p : Ps} {e : Er} (h : grow w i d r p = .error e) : e = (153, p) := by
  unfold grow at h
  split at h <;> cases h
  rfl
theorem step_rel (w : Wk) (s : St) (hx : XI (w, s)) (ho : OwI (w, s)) (hd : s.dead = false) (a b : Int) (ha : 0 <= a /\ a <= 100) (hb : 0 <= b /\ b <= 100) (p : Ps) : Rel (step (w, s) a b p) (rstep (rwOf w, rsOf s) a b p) := by
  have hh := hx.hh
  simp only at hh
  have e1 : wrap64 (a - s.h) = a - s.h := w_in _ (by omega)
  have e2 : wrap64 (wrap64 (s.h - a) + b) = s.h - a + b := by rw [w_in (s.h - a) (by omega), w_in _ (by omega)]
  have hr0 := hx.1.r0
  unfold OwI at ho
  simp only at ho hr0
  unfold step rstep
  simp only
  show Rel _ (rgr (rwOf w) (wrap64 (a - s.h)) (wrap64 (wrap64 (s.h - a) + b)) ((toI s.own).length : Int) p, { rsOf s with h := wrap64 (wrap64 (s.h - a) + b) })
  rw [e1, e2, grow_rel w _ _ _ 0 p (by rw [toI_len]; omega)]
  cases hg : grow w (a - s.h) (s.h - a + b) 0 p with
  | error e =>
    rw [grow_err hg]
    exact ⟨rfl, rfl, by simp⟩
  | ok w' =>
    have hw := (grow_inv hx.1 hg).2.2.2.2
    have hwr : w.r <= w'.r := by
      unfold grow at hg
      split at hg <;> cases hg
      unfold grown; simp only; omega
    refine ⟨rfl, rfl, fun _ => ⟨?_, ?_⟩⟩
    · show (⟨s.h - a + b, toI s.own, s.dead⟩ : Rs) = ⟨s.h + (b - a), toI s.own, s.dead⟩
      rw [show s.h - a + b = s.h + (b - a) by omega]
    · unfold OwI; simp only; omega
theorem kd_is (s : St) (n : Nat) : rlast (toI s.own) n = kd s n := by
  unfold rlast kd
  rw [toI_len]
  split
  · rfl
  · unfold toI
    simp only [List.getD_eq_getElem?_getD, List.getElem?_map]
    cases s.own[s.own.length - 1 - n]? with
    | none => rfl
    | some x => rfl
theorem rok_is (op : Int) (s : St) : rok op (toI s.own) = rfits op s := by
  unfold rok rfits
  rw [kd_is, kd_is]
theorem may_up {w : Wk} {i d r : Int} (h : may (grown w i d r) = true) (hr : 0 <= w.r) : may (grown w i d 0) = true := by
  unfold may grown at *
  simp only [Bool.and_eq_true, decide_eq_true_eq] at *
  omega
theorem grow_two (w : Wk) (i d r : Int) (p : Ps) (hi : 0 <= w.i) (hd : 0 <= w.d) (hr : 0 <= w.r) : grow w i d r p = match grow w i d 0 p with | .error e => .error e | .ok w' => grow w' 0 0 r p := by
  have e : grown (grown w i d 0) 0 0 r = grown w i d r := by
    unfold grown
    simp only [Wk.mk.injEq, and_true]
    omega
  unfold grow
  by_cases h : may (grown w i d 0) = true
  · rw [if_pos h]
    simp only
    rw [e]
  · rw [if_neg h]
    simp only
    rw [if_neg fun c => h (may_up c hr)]
theorem rgr_rel (w : Wk) (s' : St) (i d r r' : Int) (p : Ps) (y : Rs) (hr : max w.r r = max w.r r') (hy : y.dead = s'.dead) (hs : ∀ w', grow w i d r' p = .ok w' -> s'.dead = false -> y = rsOf s' /\ OwI (w', s')) :
    Rel (match grow w i d r' p with | .error e => .error e | .ok w' => .ok (w', s')) (rgr (rwOf w) i d r p, y) := by
  rw [grow_rel w i d r r' p hr]
  cases hg : grow w i d r' p with
  | error e =>
    rw [grow_err hg]
    exact ⟨rfl, rfl, by simp⟩
  | ok w' => exact ⟨rfl, hy, fun h => hs w' hg h⟩
theorem grow_r {w w' : Wk} {i d r : Int} {p : Ps} (h : grow w i d r p = .ok w') : w'.r = max w.r r := by
  unfold grow at h
  split at h <;> cases h
  rfl
theorem toI_dropLast (l : List UInt8) : (toI l).take ((toI l).length - 1) = toI l.dropLast := by
  rw [<- List.dropLast_eq_take]
  unfold toI
  exact List.map_dropLast.symm
theorem prim_rel (w : Wk) (s : St) (hx : XI (w, s)) (ho : OwI (w, s)) (hd : s.dead = false) (op : Int) (h9 : 9 <= op /\ op <= 63) (p : Ps) : Rel (prim op p (w, s)) (rprim op p (rwOf w, rsOf s)) := by
  have hh := hx.hh
  have hi0 := hx.1.i0
  have hd0 := hx.1.d0
  have hr0 := hx.1.r0
  have hol := ho
  unfold OwI at hol
  simp only at hh hi0 hd0 hr0 hol
  have hio := ri_ro op.toNat (by omega)
  have hkk := rok_is op s
  unfold prim rprim
  show Rel _ (if rok op (toI s.own) = false then _ else _)
  rw [hkk]
  simp only
  by_cases hf : rfits op s = false
  · rw [if_pos hf, if_pos hf]
    exact ⟨rfl, rfl, by simp⟩
  rw [if_neg hf, if_neg hf]
  have e1 : wrap64 (P.ri op.toNat - s.h) = P.ri op.toNat - s.h := w_in _ (by omega)
  have e2 : wrap64 (wrap64 (s.h - P.ri op.toNat) + P.ro op.toNat) = s.h - P.ri op.toNat + P.ro op.toNat := by rw [w_in (s.h - P.ri op.toNat) (by omega), w_in _ (by omega)]
  have e3 : s.h - P.ri op.toNat + P.ro op.toNat = s.h + (P.ro op.toNat - P.ri op.toNat) := by omega
  show Rel _ (rgr (rwOf w) (wrap64 (P.ri op.toNat - s.h)) (wrap64 (wrap64 (s.h - P.ri op.toNat) + P.ro op.toNat)) ((rown op (toI s.own)).length : Int) p, (⟨wrap64 (wrap64 (s.h - P.ri op.toNat) + P.ro op.toNat), rown op (toI s.own), decide (op = 11)⟩ : Rs))
  rw [e1, e2]
  by_cases h55 : op = 55
  · have hrw : rown op (toI s.own) = toI (s.own ++ [4]) := by
      unfold rown; rw [if_pos h55]; unfold toI; rw [List.map_append]; rfl
    rw [hrw, toI_len]
    have := rgr_rel w ⟨false, s.h + (P.ro op.toNat - P.ri op.toNat), s.own ++ [4]⟩ (P.ri op.toNat - s.h) (s.h - P.ri op.toNat + P.ro op.toNat) ((s.own ++ [4]).length : Int) ((s.own ++ [4]).length : Int) p ⟨s.h - P.ri op.toNat + P.ro op.toNat, toI (s.own ++ [4]), decide (op = 11)⟩ rfl (by rw [h55]; rfl) (fun w' hg _ => ⟨by unfold rsOf; rw [e3, h55]; rfl, by unfold OwI; rw [grow_r hg]; simp only; omega⟩)
    rw [grow_two w _ _ _ p hi0 hd0 hr0] at this
    refine cast ?_ this
    congr 1
    unfold step
    simp only
    cases grow w (P.ri op.toNat - s.h) (s.h - P.ri op.toNat + P.ro op.toNat) 0 p with
    | error e => rfl
    | ok w1 =>
      simp only
      rw [if_pos h55]
      unfold put
      simp only
      rw [show ((s.own ++ [(4 : UInt8)]).length : Int) = ((s.own.length + [(4 : UInt8)].length : Nat) : Int) by simp, hd]
      rfl
  · have hg0 : ∀ (s' : St) (y : Rs) (r : Int), max w.r r = max w.r 0 -> y.dead = s'.dead -> (s'.dead = false -> y = rsOf s' /\ s'.own.length <= s.own.length) -> Rel (match grow w (P.ri op.toNat - s.h) (s.h - P.ri op.toNat + P.ro op.toNat) 0 p with | .error e => .error e | .ok w' => .ok (w', s')) (rgr (rwOf w) (P.ri op.toNat - s.h) (s.h - P.ri op.toNat + P.ro op.toNat) r p, y) := fun s' y r hr hy hs =>
      rgr_rel w s' _ _ r 0 p y hr hy (fun w' hg hdd => ⟨(hs hdd).1, by have := (hs hdd).2; unfold OwI; rw [grow_r hg]; simp only; omega⟩)
    unfold step
    simp only
    by_cases h56 : op = 56
    · have hrw : rown op (toI s.own) = toI s.own.dropLast := by
        unfold rown; rw [if_neg h55, if_pos h56]; exact toI_dropLast _
      rw [hrw, toI_len]
      have := hg0 ⟨false, s.h + (P.ro op.toNat - P.ri op.toNat), s.own.dropLast⟩ ⟨s.h - P.ri op.toNat + P.ro op.toNat, toI s.own.dropLast, decide (op = 11)⟩ (s.own.dropLast.length : Int) (by rw [List.length_dropLast]; omega) (by rw [h56]; rfl) (fun _ => ⟨by unfold rsOf; rw [e3, h56]; rfl, by rw [List.length_dropLast]; omega⟩)
      refine cast ?_ this
      congr 1
      cases grow w (P.ri op.toNat - s.h) (s.h - P.ri op.toNat + P.ro op.toNat) 0 p with
      | error e => rfl
      | ok w1 =>
        simp only
        rw [if_neg h55, if_pos h56, hd]
    · have hrw : rown op (toI s.own) = toI s.own := by unfold rown; rw [if_neg h55, if_neg h56]
      rw [hrw, toI_len]
      have := hg0 ⟨decide (op = 11), s.h + (P.ro op.toNat - P.ri op.toNat), s.own⟩ ⟨s.h - P.ri op.toNat + P.ro op.toNat, toI s.own, decide (op = 11)⟩ (s.own.length : Int) (by omega) rfl (fun _ => ⟨by unfold rsOf; rw [e3], Nat.le_refl _⟩)
      refine cast ?_ this
      congr 1
      cases grow w (P.ri op.toNat - s.h) (s.h - P.ri op.toNat + P.ro op.toNat) 0 p with
      | error e => rfl
      | ok w1 =>
        simp only
        rw [if_neg h55, if_neg h56]
        by_cases h11 : op = 11
        · rw [if_pos h11, decide_eq_true h11]
        · rw [if_neg h11, decide_eq_false h11, hd]
theorem call_rel (w : Wk) (s : St) (hx : XI (w, s)) (ho : OwI (w, s)) (hd : s.dead = false) (t : Option Ty) (ht : ∀ t', t = some t' -> TI t') (p : Ps) : Rel (call t p (w, s)) (rcall t p (rwOf w, rsOf s)) := by
  cases t with
  | none => exact step_rel w s hx ho hd 0 1 (by decide) (by decide) p
  | some t =>
    have hh := hx.hh
    have hl := hx.hl
    have hol := ho
    unfold OwI at hol
    simp only at hh hol hl
    unfold call rcall
    simp only
    by_cases he : t.e = 0
    · rw [if_pos he, if_pos he]
      obtain ⟨t1, t2, t3, t4, t5, t6, t7, t8⟩ := ht t rfl he
      show Rel _ (rgr (rwOf w) (wrap64 (t.i - s.h)) (wrap64 (s.h + t.d)) (wrap64 (((toI s.own).length : Int) + 1 + t.r)) p, (⟨wrap64 (wrap64 (s.h - t.i) + t.o), toI s.own, t.nv⟩ : Rs))
      rw [toI_len, w_in (t.i - s.h) (by omega), w_in (s.h + t.d) (by omega), w_in ((s.own.length : Int) + 1 + t.r) (by omega), w_in (s.h - t.i) (by omega), w_in (s.h - t.i + t.o) (by omega)]
      exact rgr_rel w ⟨t.nv, s.h + (t.o - t.i), s.own⟩ _ _ _ _ p ⟨s.h - t.i + t.o, toI s.own, t.nv⟩ rfl rfl (fun w' hg _ => ⟨by unfold rsOf; simp only [Rs.mk.injEq, and_true]; omega, by unfold OwI; rw [grow_r hg]; simp only; omega⟩)
    · rw [if_neg he, if_neg he]
      exact ⟨rfl, rfl, he⟩
theorem ends_rel (w : Wk) (s : St) (p : Ps) : match leave s p w with | .error e => (rends (rwOf w, rsOf s) p).1.e = e.1 /\ (rends (rwOf w, rsOf s) p).1.p = e.2 /\ e.1 ≠ 0 | .ok w' => (rends (rwOf w, rsOf s) p).1 = rwOf w' := by
  unfold leave rends rend1
  show match (if s.own = [] then _ else _ : Except Er Wk) with | .error e => _ | .ok w' => _
  by_cases ho : s.own = []
  · have ho2 : (rsOf s).own = [] := by unfold rsOf; rw [ho]; rfl
    rw [if_pos ho]
    simp only
    rw [if_pos ho2]
    unfold rend2
    by_cases hc : w.nv = true \/ w.lf = s.h
    · rw [if_pos hc]
      simp only
      have hn : ¬ ((rwOf w).ex = true /\ (rwOf w).xh ≠ (rsOf s).h) := by
        rintro ⟨a, b⟩
        rcases hc with hc | hc
        · unfold rwOf at a; rw [hc] at a; cases a
        · exact b hc
      rw [if_neg hn]
      unfold rend3
      by_cases hx : (rwOf w).ex = true
      · rw [if_pos hx]
        have hnv : w.nv = false := by unfold rwOf at hx; simpa using hx
        have hlf : w.lf = s.h := by
          rcases hc with hc | hc
          · rw [hc] at hnv; cases hnv
          · exact hc
        unfold rwOf
        rw [hnv, hlf]
      · rw [if_neg hx]
        rfl
    · rw [if_neg hc]
      simp only
      have hy : (rwOf w).ex = true /\ (rwOf w).xh ≠ (rsOf s).h := by
        refine ⟨?_, fun e => hc (.inr e)⟩
        unfold rwOf
        cases hnv : w.nv with
        | true => exact (hc (.inl hnv)).elim
        | false => rfl
      rw [if_pos hy]
      have e1 : rfail (rwOf w) 150 p = { rwOf w with e := 150, p := p } := rfl
      rw [e1]
      unfold rend3
      split
      · exact ⟨rfl, rfl, by decide⟩
      · exact ⟨rfl, rfl, by decide⟩
  · have ho2 : ¬ (rsOf s).own = [] := fun e => ho (by unfold rsOf toI at e; simpa using e)
    rw [if_neg ho]
    simp only
    rw [if_neg ho2]
    have e1 : rfail (rwOf w) 152 p = { rwOf w with e := 152, p := p } := rfl
    rw [e1]
    have e2 : rend2 { rwOf w with e := 152, p := p } (rsOf s) p = { rwOf w with e := 152, p := p } := by
      unfold rend2
      split
      · rfl
      · rfl
    rw [e2]
    unfold rend3
    split
    · exact ⟨rfl, rfl, by decide⟩
    · exact ⟨rfl, rfl, by decide⟩
theorem toI_inj {a b : List UInt8} (h : toI a = toI b) : a = b := by
  unfold toI at h
  exact (List.map_inj_right (fun x y e => UInt8.toNat_inj.1 (by exact_mod_cast e))).1 h
theorem alike_is (a b : St) (ha : a.dead = false) (hb : b.dead = false) : ralike (rsOf a) (rsOf b) = same a b := by
  unfold ralike same rsOf
  rw [ha, hb]
  simp only [beq_self_eq_true, Bool.true_and]
  congr 1
  by_cases h : a.own = b.own
  · rw [decide_eq_true h, decide_eq_true (by rw [h])]
  · rw [decide_eq_false h, decide_eq_false (fun e => h (toI_inj e))]
theorem must_is (w : Wk) (a b : St) (a' : Rs) (e : Int) (p : Ps) (h1 : a'.dead = a.dead) (h2 : a.dead = false -> a' = rsOf a) (hb : b.dead = false) : rmust (rwOf w) a' (rsOf b) e p = if a.dead = true \/ same a b = true then rwOf w else { rwOf w with e := e, p := p } := by
  unfold rmust
  rw [h1]
  by_cases hd : a.dead = true
  · rw [if_pos (.inl hd), if_pos (.inl hd)]
  · have hd' : a.dead = false := by simpa using hd
    rw [h2 hd', alike_is a b hd' hb]
    split <;> rfl
theorem rmust_flt (w : Rw) (a b : Rs) (e : Int) (p : Ps) (h : w.e ≠ 0) : rmust w a b e p = w := by
  unfold rmust
  split
  · rfl
  · exact rfail_e _ _ _ h
theorem rgr_flt (w : Rw) (i d r : Int) (p : Ps) (h : w.e ≠ 0) : (rgr w i d r p).e = w.e /\ (rgr w i d r p).p = w.p := by
  unfold rgr
  rw [rmost_e _ _ (by exact h)]
  exact ⟨rfl, rfl⟩
def MonR (f : X -> Re) : Prop := ∀ x y, f x = .ok y -> x.1.r <= y.1.r
structure RelF (f : X -> Re) (g : RX -> RX) : Prop where
  rel : ∀ w s, XI (w, s) -> OwI (w, s) -> s.dead = false -> Rel (f (w, s)) (g (rwOf w, rsOf s))
  flt : ∀ y : RX, y.1.e ≠ 0 -> g y = y
  mon : MonR f
theorem Rel.ok {x : X} {y : RX} (h : Rel (.ok x) y) (hd : x.2.dead = false) : y = (rwOf x.1, rsOf x.2) /\ OwI x := ⟨Prod.ext h.1 (h.2.2 hd).1, (h.2.2 hd).2⟩
theorem Rel.err {e : Er} {y z : RX} (h : Rel (.error e) y) (h1 : z.1.e = y.1.e) (h2 : z.1.p = y.1.p) : Rel (.error e) z := ⟨h1.trans h.1, h2.trans h.2.1, h.2.2⟩
theorem Rel.ne {e : Er} {y : RX} (h : Rel (.error e) y) : y.1.e ≠ 0 := by rw [h.1]; exact h.2.2
theorem until_rel {th : X -> Re} {g : RX -> RX} (hi : Inv th) (h : RelF th g) (p : Ps) (w : Wk) (s : St) (hx : XI (w, s)) (ho : OwI (w, s)) (hd : s.dead = false) : Rel (until_ th p (w, s)) (runt g p (rwOf w, rsOf s)) := by
  have h1 := h.rel w s hx ho hd
  unfold until_ runt
  generalize g (rwOf w, rsOf s) = a' at *
  cases ha : th (w, s) with
  | error e =>
    rw [ha] at h1
    simp only
    split
    · exact h1
    · obtain ⟨f1, f2⟩ := rgr_flt a'.1 (wrap64 (1 - a'.2.h)) (wrap64 (wrap64 (a'.2.h - 1) + 0)) (a'.2.own.length : Int) p h1.ne
      refine h1.err ?_ ?_
      · show (rmust (rgr _ _ _ _ _) _ _ _ _).e = _
        rw [rmust_flt _ _ _ _ _ (by rw [f1]; exact h1.ne)]
        exact f1
      · show (rmust (rgr _ _ _ _ _) _ _ _ _).p = _
        rw [rmust_flt _ _ _ _ _ (by rw [f1]; exact h1.ne)]
        exact f2
  | ok a =>
    rw [ha] at h1
    have hI := (hi _ _ hx ha).1
    obtain ⟨wa, sa⟩ := a
    simp only
    by_cases hda : sa.dead = true
    · rw [if_pos hda, if_pos (h1.2.1.trans hda)]
      exact h1
    · have hda' : sa.dead = false := by simpa using hda
      rw [if_neg hda, if_neg (by rw [h1.2.1]; exact hda)]
      obtain ⟨e1, e2⟩ := h1.ok hda'
      subst e1
      have h2 := step_rel wa sa hI e2 hda' 1 0 (by decide) (by decide) p
      generalize rstep (rwOf wa, rsOf sa) 1 0 p = b' at *
      cases hb : step (wa, sa) 1 0 p with
      | error e =>
        rw [hb] at h2
        exact h2.err (by rw [rmust_flt _ _ _ _ _ h2.ne]) (by rw [rmust_flt _ _ _ _ _ h2.ne])
      | ok b =>
        rw [hb] at h2
        obtain ⟨wb, sb⟩ := b
        simp only
        have hdb : sb.dead = false := by
          unfold step at hb
          simp only at hb
          split at hb <;> cases hb
          exact hda'
        obtain ⟨e3, e4⟩ := h2.ok hdb
        subst e3
        rw [must_is wb sb s (rsOf sb) 151 p rfl (fun _ => rfl) hd]
        unfold back
        by_cases hc : sb.dead = true \/ same sb s = true
        · rw [if_pos hc, if_pos hc]
          exact ⟨rfl, rfl, fun _ => ⟨rfl, e4⟩⟩
        · rw [if_neg hc, if_neg hc]
          exact ⟨rfl, rfl, by simp⟩
theorem step_dead {w : Wk} {s : St} {a b : Int} {p : Ps} {y : X} (h : step (w, s) a b p = .ok y) : y.2.dead = s.dead := by
  unfold step at h
  simp only at h
  split at h <;> cases h
  rfl
theorem while_rel {th el : X -> Re} {g k : RX -> RX} (hi : Inv th) (h : RelF th g) (hk : RelF el k) (p : Ps) (w : Wk) (s : St) (hx : XI (w, s)) (ho : OwI (w, s)) (hd : s.dead = false) : Rel (while_ th el p (w, s)) (rwhi g k p (rwOf w, rsOf s)) := by
  have h1 := h.rel w s hx ho hd
  unfold while_ rwhi
  generalize g (rwOf w, rsOf s) = a' at *
  cases ha : th (w, s) with
  | error e =>
    rw [ha] at h1
    simp only
    split
    · exact h1
    · obtain ⟨f1, f2⟩ := rgr_flt a'.1 (wrap64 (1 - a'.2.h)) (wrap64 (wrap64 (a'.2.h - 1) + 0)) (a'.2.own.length : Int) p h1.ne
      have hne : (rstep a' 1 0 p).1.e ≠ 0 := by
        show (rgr _ _ _ _ _).e ≠ 0
        rw [f1]; exact h1.ne
      rw [hk.flt _ hne]
      refine h1.err ?_ ?_
      · show (rmust (rgr _ _ _ _ _) _ _ _ _).e = _
        rw [rmust_flt _ _ _ _ _ (by rw [f1]; exact h1.ne)]
        exact f1
      · show (rmust (rgr _ _ _ _ _) _ _ _ _).p = _
        rw [rmust_flt _ _ _ _ _ (by rw [f1]; exact h1.ne)]
        exact f2
  | ok a =>
    rw [ha] at h1
    have hI := (hi _ _ hx ha).1
    obtain ⟨wa, sa⟩ := a
    simp only
    by_cases hda : sa.dead = true
    · rw [if_pos hda, if_pos (h1.2.1.trans hda)]
      exact h1
    · have hda' : sa.dead = false := by simpa using hda
      rw [if_neg hda, if_neg (by rw [h1.2.1]; exact hda)]
      obtain ⟨e1, e2⟩ := h1.ok hda'
      subst e1
      have h2 := step_rel wa sa hI e2 hda' 1 0 (by decide) (by decide) p
      generalize rstep (rwOf wa, rsOf sa) 1 0 p = b' at *
      cases hb : step (wa, sa) 1 0 p with
      | error e =>
        rw [hb] at h2
        rw [hk.flt _ h2.ne]
        exact h2.err (by rw [rmust_flt _ _ _ _ _ h2.ne]) (by rw [rmust_flt _ _ _ _ _ h2.ne])
      | ok b =>
        rw [hb] at h2
        have hbI := (step_inv 1 0 p (by decide) (by decide) _ _ hI hb).1
        have hdb := (step_dead hb).trans hda'
        obtain ⟨wb, sb⟩ := b
        simp only at hdb ⊢
        obtain ⟨e3, e4⟩ := h2.ok hdb
        subst e3
        have h3 := hk.rel wb sb hbI e4 hdb
        simp only
        generalize k (rwOf wb, rsOf sb) = c' at *
        cases hc : el (wb, sb) with
        | error e =>
          rw [hc] at h3
          exact h3.err (by rw [rmust_flt _ _ _ _ _ h3.ne]) (by rw [rmust_flt _ _ _ _ _ h3.ne])
        | ok c =>
          rw [hc] at h3
          obtain ⟨wc, sc⟩ := c
          simp only
          obtain ⟨c1, c2⟩ := c'
          obtain ⟨g1, g2, g3⟩ := h3
          simp only at g1 g2 g3
          subst g1
          simp only
          rw [must_is wc sc s c2 151 p g2 (fun h => (g3 h).1) hd]
          unfold back
          by_cases hcc : sc.dead = true \/ same sc s = true
          · rw [if_pos hcc, if_pos hcc]
            refine ⟨rfl, rfl, fun _ => ⟨rfl, ?_⟩⟩
            have := hk.mon _ _ hc
            unfold OwI at e4 ⊢
            simp only at e4 this ⊢
            omega
          · rw [if_neg hcc, if_neg hcc]
            exact ⟨rfl, rfl, by simp⟩
theorem again_rel {th : X -> Re} {g : RX -> RX} (h : RelF th g) (p : Ps) (w : Wk) (s : St) (hx : XI (w, s)) (ho : OwI (w, s)) (hd : s.dead = false) : Rel (again th p (w, s)) (raga g p (rwOf w, rsOf s)) := by
  have h1 := h.rel w s hx ho hd
  unfold again raga
  generalize g (rwOf w, rsOf s) = a' at *
  cases ha : th (w, s) with
  | error e =>
    rw [ha] at h1
    exact h1.err (by rw [rmust_flt _ _ _ _ _ h1.ne]) (by rw [rmust_flt _ _ _ _ _ h1.ne])
  | ok a =>
    rw [ha] at h1
    obtain ⟨wa, sa⟩ := a
    obtain ⟨a1, a2⟩ := a'
    obtain ⟨g1, g2, g3⟩ := h1
    simp only at g1 g2 g3
    subst g1
    simp only
    rw [must_is wa sa s a2 151 p g2 (fun h => (g3 h).1) hd]
    unfold back
    by_cases hcc : sa.dead = true \/ same sa s = true
    · rw [if_pos hcc, if_pos hcc]
      exact ⟨rfl, rfl, fun h => by cases h⟩
    · rw [if_neg hcc, if_neg hcc]
      exact ⟨rfl, rfl, by simp⟩
theorem ife_rel {th el : X -> Re} {g k : RX -> RX} (hi : Inv th) (h : RelF th g) (hk : RelF el k) (p : Ps) (w : Wk) (s : St) (hx : XI (w, s)) (ho : OwI (w, s)) (hd : s.dead = false) : Rel (choice th el p (w, s)) (rif2 g k p (rstep (rwOf w, rsOf s) 1 0 p)) := by
  have h2 := step_rel w s hx ho hd 1 0 (by decide) (by decide) p
  unfold choice rif2
  generalize rstep (rwOf w, rsOf s) 1 0 p = y' at *
  cases hb : step (w, s) 1 0 p with
  | error e =>
    rw [hb] at h2
    simp only
    rw [h.flt _ h2.ne, hk.flt (y'.1, y'.2) h2.ne]
    split
    · exact h2
    · exact h2.err (by rw [rmust_flt _ _ _ _ _ h2.ne]) (by rw [rmust_flt _ _ _ _ _ h2.ne])
  | ok b =>
    rw [hb] at h2
    have hbI := (step_inv 1 0 p (by decide) (by decide) _ _ hx hb).1
    have hdb := (step_dead hb).trans hd
    obtain ⟨wb, sb⟩ := b
    simp only at hdb ⊢
    obtain ⟨e3, e4⟩ := h2.ok hdb
    subst e3
    have h3 := h.rel wb sb hbI e4 hdb
    simp only
    generalize g (rwOf wb, rsOf sb) = a' at *
    cases ha : th (wb, sb) with
    | error e =>
      rw [ha] at h3
      simp only
      rw [hk.flt (a'.1, rsOf sb) h3.ne]
      split
      · exact h3
      · exact h3.err (by rw [rmust_flt _ _ _ _ _ h3.ne]) (by rw [rmust_flt _ _ _ _ _ h3.ne])
    | ok a =>
      rw [ha] at h3
      have haI := hi _ _ hbI ha
      have hmr := h.mon _ _ ha
      obtain ⟨wa, sa⟩ := a
      obtain ⟨a1, a2⟩ := a'
      obtain ⟨g1, g2, g3⟩ := h3
      simp only at g1 g2 g3 hmr haI ⊢
      subst g1
      have e5 : OwI (wa, sb) := by unfold OwI at e4 ⊢; simp only at e4 ⊢; omega
      have h4 := hk.rel wa sb ⟨haI.1.1, hbI.2.up haI.2⟩ e5 hdb
      generalize k (rwOf wa, rsOf sb) = c' at *
      cases hc : el (wa, sb) with
      | error e =>
        rw [hc] at h4
        simp only
        split
        · exact h4
        · exact h4.err (by rw [rmust_flt _ _ _ _ _ h4.ne]) (by rw [rmust_flt _ _ _ _ _ h4.ne])
      | ok c =>
        rw [hc] at h4
        have hmc := hk.mon _ _ hc
        obtain ⟨wc, sc⟩ := c
        simp only at hmc ⊢
        by_cases hda : sa.dead = true
        · rw [if_pos hda, if_pos (g2.trans hda)]
          exact h4
        · have hda' : sa.dead = false := by simpa using hda
          rw [if_neg hda, if_neg (show ¬ a2.dead = true by rw [g2]; exact hda)]
          obtain ⟨c1, c2⟩ := c'
          obtain ⟨q1, q2, q3⟩ := h4
          simp only at q1 q2 q3 ⊢
          subst q1
          rw [(g3 hda').1, must_is wc sc sa c2 150 p q2 (fun h => (q3 h).1) hda']
          have hsy : (sc.dead = true \/ same sc sa = true) ↔ (sc.dead = true \/ same sa sc = true) := by
            have : same sc sa = same sa sc := by
              unfold same
              congr 1
              · cases sc.dead <;> cases sa.dead <;> rfl
              · congr 1
                · exact Bool.eq_iff_iff.2 (by simp only [beq_iff_eq]; exact eq_comm)
                · exact Bool.eq_iff_iff.2 (by simp only [decide_eq_true_eq]; exact eq_comm)
            rw [this]
          by_cases hcc : sc.dead = true \/ same sc sa = true
          · rw [if_pos hcc, if_pos (hsy.1 hcc)]
            refine ⟨rfl, rfl, fun _ => ⟨rfl, ?_⟩⟩
            have := (g3 hda').2
            unfold OwI at this ⊢
            simp only at this ⊢
            omega
          · rw [if_neg hcc, if_neg (fun c => hcc (hsy.2 c))]
            exact ⟨rfl, rfl, by simp⟩
theorem if_rel {th : X -> Re} {g : RX -> RX} (hi : Inv th) (h : RelF th g) (p : Ps) (w : Wk) (s : St) (hx : XI (w, s)) (ho : OwI (w, s)) (hd : s.dead = false) : Rel (choice th (fun x => .ok x) p (w, s)) (rif1 g p (rstep (rwOf w, rsOf s) 1 0 p)) := by
  have h2 := step_rel w s hx ho hd 1 0 (by decide) (by decide) p
  unfold choice rif1
  generalize rstep (rwOf w, rsOf s) 1 0 p = y' at *
  cases hb : step (w, s) 1 0 p with
  | error e =>
    rw [hb] at h2
    simp only
    rw [h.flt _ h2.ne]
    exact h2.err (by rw [rmust_flt _ _ _ _ _ h2.ne]) (by rw [rmust_flt _ _ _ _ _ h2.ne])
  | ok b =>
    rw [hb] at h2
    have hbI := (step_inv 1 0 p (by decide) (by decide) _ _ hx hb).1
    have hdb := (step_dead hb).trans hd
    obtain ⟨wb, sb⟩ := b
    simp only at hdb ⊢
    obtain ⟨e3, e4⟩ := h2.ok hdb
    subst e3
    have h3 := h.rel wb sb hbI e4 hdb
    simp only
    generalize g (rwOf wb, rsOf sb) = a' at *
    cases ha : th (wb, sb) with
    | error e =>
      rw [ha] at h3
      exact h3.err (by rw [rmust_flt _ _ _ _ _ h3.ne]) (by rw [rmust_flt _ _ _ _ _ h3.ne])
    | ok a =>
      rw [ha] at h3
      have hmr := h.mon _ _ ha
      obtain ⟨wa, sa⟩ := a
      obtain ⟨a1, a2⟩ := a'
      obtain ⟨g1, g2, g3⟩ := h3
      simp only at g1 g2 g3 hmr ⊢
      subst g1
      have e5 : OwI (wa, sb) := by unfold OwI at e4 ⊢; simp only at e4 ⊢; omega
      rw [must_is wa sa sb a2 150 p g2 (fun h => (g3 h).1) hdb]
      by_cases hda : sa.dead = true
      · rw [if_pos hda, if_pos (.inl hda)]
        exact ⟨rfl, rfl, fun _ => ⟨rfl, e5⟩⟩
      · have hda' : sa.dead = false := by simpa using hda
        rw [if_neg hda]
        by_cases hcc : same sa sb = true
        · rw [if_pos (.inr hcc), if_pos (.inr hcc)]
          have hss : sa = sb := by
            unfold same at hcc
            simp only [Bool.and_eq_true, beq_iff_eq, decide_eq_true_eq] at hcc
            obtain ⟨q1, q2, q3⟩ := hcc
            cases sa; cases sb; simp only at q1 q2 q3; subst q1 q2 q3; rfl
          subst hss
          exact ⟨rfl, rfl, fun _ => ⟨rfl, e5⟩⟩
        · have hn1 : ¬ (sb.dead = true \/ same sa sb = true) := by rintro (c | c); (rw [hdb] at c; cases c); exact hcc c
          have hn2 : ¬ (sa.dead = true \/ same sa sb = true) := by rintro (c | c); exact hda c; exact hcc c
          rw [if_neg hn1, if_neg hn2]
          exact ⟨rfl, rfl, by simp⟩
theorem do_rel {th : X -> Re} {g : RX -> RX} (hi : Inv th) (h : RelF th g) (p : Ps) (w : Wk) (s : St) (hx : XI (w, s)) (ho : OwI (w, s)) (hd : s.dead = false) : Rel (do_ th p (w, s)) (rdo1 g p (rstep (rwOf w, { rsOf s with own := (rsOf s).own ++ [2, 3] }) 2 0 p)) := by
  have hh := hx.hh
  have hi0 := hx.1.i0
  have hd0 := hx.1.d0
  have hr0 := hx.1.r0
  have hol := ho
  unfold OwI at hol
  simp only at hh hi0 hd0 hr0 hol
  have hown : (rsOf s).own ++ [2, 3] = toI (s.own ++ [2, 3]) := by unfold rsOf toI; simp
  have e1 : wrap64 (2 - s.h) = 2 - s.h := w_in _ (by omega)
  have e2 : wrap64 (wrap64 (s.h - 2) + 0) = s.h - 2 + 0 := by rw [w_in (s.h - 2) (by omega), w_in _ (by omega)]
  have e3 : s.h - 2 + 0 = s.h + (0 - 2) := by omega
  have hst : rstep (rwOf w, { rsOf s with own := (rsOf s).own ++ [2, 3] }) 2 0 p = (rgr (rwOf w) (2 - s.h) (s.h - 2 + 0) ((s.own ++ [2, 3]).length : Int) p, rsOf ⟨false, s.h + (0 - 2), s.own ++ [2, 3]⟩) := by
    rw [hown]
    unfold rstep
    show (rgr (rwOf w) (wrap64 (2 - s.h)) (wrap64 (wrap64 (s.h - 2) + 0)) ((toI (s.own ++ [2, 3])).length : Int) p, (⟨wrap64 (wrap64 (s.h - 2) + 0), toI (s.own ++ [2, 3]), s.dead⟩ : Rs)) = _
    rw [e1, e2, toI_len, hd, e3]
    rfl
  rw [hst]
  unfold do_ step
  simp only
  have hg2 := grow_two w (2 - s.h) (s.h - 2 + 0) ((s.own ++ [2, 3]).length : Int) p hi0 hd0 hr0
  have hrel := rgr_rel w ⟨false, s.h + (0 - 2), s.own ++ [2, 3]⟩ (2 - s.h) (s.h - 2 + 0) ((s.own ++ [2, 3]).length : Int) ((s.own ++ [2, 3]).length : Int) p (rsOf ⟨false, s.h + (0 - 2), s.own ++ [2, 3]⟩) rfl rfl (fun w' hg _ => ⟨rfl, by unfold OwI; rw [grow_r hg]; simp only; omega⟩)
  generalize hy' : (rgr (rwOf w) (2 - s.h) (s.h - 2 + 0) ((s.own ++ [2, 3]).length : Int) p, rsOf ⟨false, s.h + (0 - 2), s.own ++ [2, 3]⟩) = y' at *
  have hy2 : y'.2 = rsOf ⟨false, s.h + (0 - 2), s.own ++ [2, 3]⟩ := by rw [<- hy']
  have herr : ∀ e, Rel (.error e) y' -> Rel (.error e) (rdo1 g p y') := fun e he => by
    unfold rdo1
    rw [h.flt _ he.ne]
    split
    · exact he
    · exact he.err (by rw [rmust_flt _ _ _ _ _ he.ne]) (by rw [rmust_flt _ _ _ _ _ he.ne])
  cases hb : grow w (2 - s.h) (s.h - 2 + 0) 0 p with
  | error e =>
    rw [hb] at hg2
    rw [hg2] at hrel
    exact herr e hrel
  | ok w1 =>
    rw [hb] at hg2
    simp only at hg2
    have hs1 : step (w, s) 2 0 p = .ok (w1, { s with h := s.h + (0 - 2) }) := by
      unfold step
      simp only
      rw [hb]
    have h1I := (step_inv 2 0 p (by decide) (by decide) _ _ hx hs1).1
    simp only
    have hput : put (w1, { s with h := s.h + (0 - 2) }) p [2, 3] = match grow w1 0 0 ((s.own ++ [2, 3]).length : Int) p with | .error e => .error e | .ok w' => .ok (w', ⟨false, s.h + (0 - 2), s.own ++ [2, 3]⟩) := by
      unfold put
      simp only
      rw [show ((s.own ++ [(2 : UInt8), 3]).length : Int) = ((s.own.length + [(2 : UInt8), 3].length : Nat) : Int) by simp, hd]
      cases grow w1 0 0 ((s.own.length + [(2 : UInt8), 3].length : Nat) : Int) p <;> rfl
    cases hz : grow w1 0 0 ((s.own ++ [2, 3]).length : Int) p with
    | error e =>
      rw [hz] at hg2 hput
      rw [hg2] at hrel
      rw [hput]
      exact herr e hrel
    | ok w2 =>
      rw [hz] at hg2 hput
      rw [hg2] at hrel
      simp only at hput hrel
      have h2I := (put_inv p [2, 3] _ _ h1I hput).1
      rw [hput]
      simp only
      obtain ⟨e4, e5⟩ := hrel.ok rfl
      simp only at e4
      clear hy' hst herr
      subst e4
      have h3 := h.rel w2 ⟨false, s.h + (0 - 2), s.own ++ [2, 3]⟩ h2I e5 rfl
      unfold rdo1
      generalize g (rwOf w2, rsOf ⟨false, s.h + (0 - 2), s.own ++ [2, 3]⟩) = a' at *
      cases ha : th (w2, ⟨false, s.h + (0 - 2), s.own ++ [2, 3]⟩) with
      | error e =>
        rw [ha] at h3
        simp only
        split
        · exact h3
        · exact h3.err (by rw [rmust_flt _ _ _ _ _ h3.ne]) (by rw [rmust_flt _ _ _ _ _ h3.ne])
      | ok a =>
        rw [ha] at h3
        have hmr := h.mon _ _ ha
        obtain ⟨wa, sa⟩ := a
        obtain ⟨a1, a2⟩ := a'
        obtain ⟨g1, g2, g3⟩ := h3
        simp only at g1 g2 g3 hmr ⊢
        subst g1
        rw [must_is wa sa ⟨false, s.h + (0 - 2), s.own ++ [2, 3]⟩ a2 151 p g2 (fun h => (g3 h).1) rfl]
        unfold back
        by_cases hda : sa.dead = true
        · rw [if_pos (.inl hda), if_pos (g2.trans hda)]
          exact ⟨rfl, g2, fun c => by simp only at c; rw [hda] at c; cases c⟩
        · have hda' : sa.dead = false := by simpa using hda
          rw [if_neg (show ¬ a2.dead = true by rw [g2]; exact hda)]
          by_cases hcc : sa.dead = true \/ same sa ⟨false, s.h + (0 - 2), s.own ++ [2, 3]⟩ = true
          · rw [if_pos hcc, if_pos hcc]
            refine ⟨rfl, hda'.symm, fun _ => ⟨?_, ?_⟩⟩
            · unfold rsOf
              simp only [Rs.mk.injEq]
              refine ⟨trivial, ?_, hda'.symm⟩
              rw [toI_len]
              unfold toI
              rw [<- List.map_take]
              congr 1
              rw [List.length_append]
              simp
            · unfold OwI at e5 ⊢
              simp only [List.length_append] at e5 ⊢
              omega
          · rw [if_neg hcc, if_neg hcc]
            exact ⟨rfl, rfl, by simp⟩
theorem leave_r {s : St} {p : Ps} {w w' : Wk} (h : leave s p w = .ok w') : w'.r = w.r := by
  unfold leave at h
  split at h
  · split at h <;> cases h
    rfl
  · cases h
theorem step_mon (a b : Int) (p : Ps) : MonR fun x => step x a b p := by
  intro x y h
  unfold step at h
  simp only at h
  split at h
  · cases h
  · rename_i w' hg
    cases h
    have := grow_r hg
    simp only
    omega
theorem put_mon (p : Ps) (ks : List UInt8) : MonR fun x => put x p ks := by
  intro x y h
  unfold put at h
  simp only at h
  split at h
  · cases h
  · rename_i w' hg
    cases h
    have := grow_r hg
    simp only
    omega
theorem prim_mon (op : Int) (p : Ps) : MonR (prim op p) := by
  intro x y h
  unfold prim at h
  split at h
  · cases h
  · split at h
    · cases h
    · rename_i z hz
      have h1 := step_mon _ _ p x z hz
      split at h
      · have := put_mon p [4] z y h
        omega
      · split at h
        · cases h; exact h1
        · split at h
          · cases h; exact h1
          · cases h; exact h1
theorem call_mon (t : Option Ty) (p : Ps) : MonR (call t p) := by
  intro x y h
  cases t with
  | none => exact step_mon 0 1 p x y h
  | some t =>
    simp only [call] at h
    split at h
    · split at h
      · cases h
      · rename_i w' hg
        cases h
        have := grow_r hg
        simp only
        omega
    · cases h
theorem choice_mon {th el : X -> Re} (h1 : MonR th) (h2 : MonR el) (p : Ps) : MonR (choice th el p) := by
  intro x y h
  unfold choice at h
  split at h
  · cases h
  · rename_i z hz
    have e1 := step_mon 1 0 p x z hz
    split at h
    · cases h
    · rename_i a ha
      have e2 := h1 z a ha
      split at h
      · cases h
      · rename_i b hb
        have e3 := h2 _ b hb
        simp only at e3
        split at h
        · cases h; omega
        · split at h
          · cases h; simp only; omega
          · cases h
theorem until_mon {th : X -> Re} (h1 : MonR th) (p : Ps) : MonR (until_ th p) := by
  intro x y h
  unfold until_ at h
  split at h
  · cases h
  · rename_i a ha
    have e1 := h1 x a ha
    split at h
    · cases h; exact e1
    · split at h
      · cases h
      · rename_i b hb
        have e2 := step_mon 1 0 p a b hb
        split at h
        · cases h
        · cases h; omega
theorem while_mon {th el : X -> Re} (h1 : MonR th) (h2 : MonR el) (p : Ps) : MonR (while_ th el p) := by
  intro x y h
  unfold while_ at h
  split at h
  · cases h
  · rename_i a ha
    have e1 := h1 x a ha
    split at h
    · cases h; exact e1
    · split at h
      · cases h
      · rename_i b hb
        have e2 := step_mon 1 0 p a b hb
        split at h
        · cases h
        · rename_i c hc
          have e3 := h2 b c hc
          split at h
          · cases h
          · cases h; simp only; omega
theorem again_mon {th : X -> Re} (h1 : MonR th) (p : Ps) : MonR (again th p) := by
  intro x y h
  unfold again at h
  split at h
  · cases h
  · rename_i a ha
    have e1 := h1 x a ha
    split at h
    · cases h
    · cases h; exact e1
theorem do_mon {th : X -> Re} (h1 : MonR th) (p : Ps) : MonR (do_ th p) := by
  intro x y h
  unfold do_ at h
  split at h
  · cases h
  · rename_i a ha
    have e1 := step_mon 2 0 p x a ha
    split at h
    · cases h
    · rename_i z hz
      have e2 := put_mon p [2, 3] a z hz
      split at h
      · cases h
      · rename_i b hb
        have e3 := h1 z b hb
        split at h
        · cases h
        · cases h; simp only; omega
theorem nodeB_mon (kn : ByteArray -> Option Ty) (k op : Int) (nm : ByteArray) (p : Ps) {th el : X -> Re} (h1 : MonR th) (h2 : MonR el) : MonR (nodeB kn k op nm p th el) := by
  intro x y e
  unfold nodeB at e
  split at e
  · exact prim_mon op p x y e
  split at e
  · exact step_mon 0 1 p x y e
  split at e
  · exact call_mon (kn nm) p x y e
  split at e
  · exact choice_mon h1 h2 p x y e
  split at e
  · exact until_mon h1 p x y e
  split at e
  · exact while_mon h1 h2 p x y e
  split at e
  · exact again_mon h1 p x y e
  split at e
  · exact do_mon h1 p x y e
  split at e
  · cases e
  · rename_i w hw
    cases e
    have := leave_r hw
    simp only
    omega
def NOk (n : Nd) : Prop := 1 <= n.k /\ n.k <= 9 /\ (n.k = 1 -> 9 <= n.op /\ n.op <= 63) /\ (n.k = 4 -> n.has = false -> n.el = [])
theorem nodeB_rel (kn : ByteArray -> Option Ty) (hk : ∀ s t, kn s = some t -> TI t) (n : Nd) (hn : NOk n) {th el : X -> Re} {g k : RX -> RX} (i1 : Inv th) (h1 : RelF th g) (h2 : RelF el k) (hel : n.el = [] -> el = fun x => .ok x) (w : Wk) (s : St) (hx : XI (w, s)) (ho : OwI (w, s)) (hd : s.dead = false) :
    Rel (nodeB kn n.k n.op n.nm n.p th el (w, s)) (rnodeB kn n.k n.op n.nm n.has n.p g k (rwOf w, rsOf s)) := by
  obtain ⟨k1, k9, hop, hhas⟩ := hn
  unfold nodeB rnodeB
  by_cases c1 : n.k = 1
  · rw [if_pos c1, if_pos c1]
    exact prim_rel w s hx ho hd _ (hop c1) _
  rw [if_neg c1, if_neg c1]
  by_cases c2 : n.k = 2
  · rw [if_pos c2, if_pos c2]
    exact step_rel w s hx ho hd 0 1 (by decide) (by decide) _
  rw [if_neg c2, if_neg c2]
  by_cases c3 : n.k = 3
  · rw [if_pos c3, if_pos c3]
    exact call_rel w s hx ho hd _ (fun t ht => hk _ t ht) _
  rw [if_neg c3, if_neg c3]
  by_cases c9 : n.k = 9
  · rw [if_neg (show ¬ n.k = 4 by omega), if_neg (show ¬ n.k = 5 by omega), if_neg (show ¬ n.k = 6 by omega), if_neg (show ¬ n.k = 7 by omega), if_neg (show ¬ n.k = 8 by omega), if_pos c9]
    have := ends_rel w s n.p
    cases hl : leave s n.p w with
    | error e =>
      rw [hl] at this
      exact this
    | ok w' =>
      rw [hl] at this
      exact ⟨this, rfl, fun c => by cases c⟩
  rw [if_neg c9]
  by_cases c4 : n.k = 4
  · rw [if_pos c4, if_pos c4]
    cases hh : n.has with
    | true =>
      rw [if_pos rfl]
      exact ife_rel i1 h1 h2 n.p w s hx ho hd
    | false =>
      rw [if_neg (by simp), hel (hhas c4 hh)]
      exact if_rel i1 h1 n.p w s hx ho hd
  rw [if_neg c4, if_neg c4]
  by_cases c5 : n.k = 5
  · rw [if_pos c5, if_pos c5]
    exact until_rel i1 h1 n.p w s hx ho hd
  rw [if_neg c5, if_neg c5]
  by_cases c6 : n.k = 6
  · rw [if_pos c6, if_pos c6]
    exact while_rel i1 h1 h2 n.p w s hx ho hd
  rw [if_neg c6, if_neg c6]
  by_cases c7 : n.k = 7
  · rw [if_pos c7, if_pos c7]
    exact again_rel h1 n.p w s hx ho hd
  rw [if_neg c7, if_neg c7]
  have c8 : n.k = 8 := by omega
  rw [if_pos c8]
  exact do_rel i1 h1 n.p w s hx ho hd
def NAll (l : List Nd) : Prop := ∀ R : Nd -> Prop, (∀ n, NOk n -> (∀ m ∈ n.th, R m) -> (∀ m ∈ n.el, R m) -> R n) -> ∀ m ∈ l, R m
theorem run_rel (kn : ByteArray -> Option Ty) (hk : ∀ s t, kn s = some t -> TI t) : ∀ (l : List Nd), (∀ n ∈ l, (∀ w s, XI (w, s) -> OwI (w, s) -> s.dead = false -> Rel (node kn n (w, s)) (rnode kn n (rwOf w, rsOf s))) /\ MonR (node kn n)) -> RelF (body kn l) (rbody kn l)
  | [], h => ⟨fun w s hx ho hd => ⟨rfl, rfl, fun _ => ⟨rfl, ho⟩⟩, fun _ _ => rfl, fun x y e => by rw [body_nil] at e; cases e; exact Int.le_refl _⟩
  | n :: r, h => by
    have ih := run_rel kn hk r fun m hm => h m (by simp [hm])
    obtain ⟨hn, hm⟩ := h n (by simp)
    refine ⟨fun w s hx ho hd => ?_, fun y hy => rbody_flt kn _ y hy, fun x y e => ?_⟩
    · have h1 := hn w s hx ho hd
      rw [body_cons, rbody_cons, if_neg (show ¬ (w, s).2.dead = true by simp [hd]), if_neg (fun c => c.elim (fun c => absurd (show s.dead = true from c) (by rw [hd]; simp)) fun c => c rfl)]
      generalize rnode kn n (rwOf w, rsOf s) = y' at *
      cases hy : node kn n (w, s) with
      | error e =>
        rw [hy] at h1
        simp only
        rw [rbody_flt kn r y' h1.ne]
        exact h1
      | ok y =>
        rw [hy] at h1
        have hI := (node_inv kn hk n _ _ hx hy).1
        obtain ⟨wy, sy⟩ := y
        simp only
        by_cases hdy : sy.dead = true
        · have e1 : body kn r (wy, sy) = .ok (wy, sy) := by
            cases r with
            | nil => rfl
            | cons a t => rw [body_cons, if_pos hdy]
          have e2 : rbody kn r y' = y' := by
            cases r with
            | nil => rfl
            | cons a t => rw [rbody_cons, if_pos (.inl (h1.2.1.trans hdy))]
          rw [e1, e2]
          exact h1
        · have hdy' : sy.dead = false := by simpa using hdy
          obtain ⟨e1, e2⟩ := h1.ok hdy'
          subst e1
          exact ih.rel wy sy hI e2 hdy'
    · rw [body_cons] at e
      split at e
      · cases e; exact Int.le_refl _
      · split at e
        · cases e
        · rename_i z hz
          have := hm x z hz
          have := ih.mon z y e
          omega
theorem node_rel (kn : ByteArray -> Option Ty) (hk : ∀ s t, kn s = some t -> TI t) (n : Nd) (hn : NAll [n]) : (∀ w s, XI (w, s) -> OwI (w, s) -> s.dead = false -> Rel (node kn n (w, s)) (rnode kn n (rwOf w, rsOf s))) /\ MonR (node kn n) := by
  refine hn (fun n => (∀ w s, XI (w, s) -> OwI (w, s) -> s.dead = false -> Rel (node kn n (w, s)) (rnode kn n (rwOf w, rsOf s))) /\ MonR (node kn n)) (fun n ok h1 h2 => ?_) n (by simp)
  have r1 := run_rel kn hk n.th h1
  have r2 := run_rel kn hk n.el h2
  refine ⟨fun w s hx ho hd => ?_, ?_⟩
  · rw [node_is, rnode_is]
    exact nodeB_rel kn hk n ok (body_inv kn hk n.th) r1 r2 (fun e => by rw [e]; rfl) w s hx ho hd
  · rw [node_is]
    exact nodeB_mon kn _ _ _ _ r1.mon r2.mon
theorem body_rel (kn : ByteArray -> Option Ty) (hk : ∀ s t, kn s = some t -> TI t) (l : List Nd) (hl : NAll l) : RelF (body kn l) (rbody kn l) :=
  run_rel kn hk l fun n hn => node_rel kn hk n (fun R hR m hm => by rw [List.mem_singleton] at hm; subst hm; exact hl R hR m hn)
theorem rty_is (kn : ByteArray -> Option Ty) (hk : ∀ s t, kn s = some t -> TI t) (d : Df) (hl : NAll d.body) : rty kn d = tyOf kn d := by
  have h1 := (body_rel kn hk d.body hl).rel w0 s0 xi_start (by unfold OwI; decide) rfl
  unfold rty rword tyOf word
  generalize rbody kn d.body (rwOf w0, rsOf s0) = y' at *
  cases hb : body kn d.body (w0, s0) with
  | error e =>
    rw [hb] at h1
    simp only
    rw [if_neg (fun c => h1.ne c.1)]
    unfold rtyW
    rw [if_neg h1.ne, h1.1, h1.2.1]
  | ok x =>
    rw [hb] at h1
    have hI := (body_inv kn hk d.body _ _ xi_start hb).1
    obtain ⟨wx, sx⟩ := x
    have hfin : ∀ w : Wk, WI w -> rtyW d (rwOf w) = (match (if w.nv = true \/ w.i + w.lf <= 256 then .ok w else .error (153, d.p) : Except Er Wk) with | .error e => ⟨d.nm, 0, 0, 0, 0, false, e.1, e.2⟩ | .ok w => ⟨d.nm, w.i, if w.nv then 0 else w.i + w.lf, w.d, w.r, w.nv, 0, (0, 0)⟩) := fun w hw => by
      have a1 := hw.i0; have a2 := hw.i1; have a3 := hw.l0; have a4 := hw.l1
      unfold rtyW
      rw [if_pos (show (rwOf w).e = 0 from rfl)]
      have hro : rout (rwOf w) = if w.nv then 0 else w.i + w.lf := by
        unfold rout rwOf
        simp only
        cases w.nv with
        | true => rfl
        | false => simp only [Bool.not_false, if_true]; exact w_in _ (by omega)
      rw [hro]
      cases hnv : w.nv with
      | true =>
        simp only [if_true, true_or]
        rw [if_neg (by decide)]
        unfold rwOf
        rw [hnv]
        rfl
      | false =>
        simp only [Bool.false_eq_true, if_false, false_or]
        by_cases hc : w.i + w.lf <= 256
        · rw [if_neg (by omega), if_pos hc]
          simp only
          unfold rwOf
          rw [hnv]
          rfl
        · rw [if_pos (by omega), if_neg hc]
    simp only
    by_cases hdx : sx.dead = true
    · rw [if_neg (by rintro ⟨_, c⟩; rw [h1.2.1] at c; simp only at c; rw [hdx] at c; cases c), if_pos hdx, h1.1]
      simp only
      exact hfin wx hI.1
    · have hdx' : sx.dead = false := by simpa using hdx
      obtain ⟨e1, e2⟩ := h1.ok hdx'
      subst e1
      rw [if_pos ⟨rfl, hdx'⟩, if_neg hdx]
      have h2 := ends_rel wx sx d.p
      cases hl : leave sx d.p wx with
      | error e =>
        rw [hl] at h2
        simp only at h2 ⊢
        unfold rtyW
        rw [if_neg (by rw [h2.1]; exact h2.2.2), h2.1, h2.2.1]
      | ok w' =>
        rw [hl] at h2
        simp only at h2 ⊢
        rw [h2]
        exact hfin w' (leave_inv hI.1 hI.2 hl).1
end Go.Proofs.YtlilefhmohkfkaaGreatDoor.E
