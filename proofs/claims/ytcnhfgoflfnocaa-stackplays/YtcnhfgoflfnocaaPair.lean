import Derived.Test.YtcnhfgoflfnocaaOwnC
/-! The law's pair: both sides, and the lists that were handed out. -/
namespace Go.Proofs.Ytcnhfgoflfnocaa
open Go.RowKit
open Go.Proofs
set_option linter.unusedVariables false
set_option linter.unusedSimpArgs false
def mk (i : Nat) : Int := IntKind.u16.wrap (9000 + (i : Int))
def rU (m i : Nat) : List Int := List.replicate m (mk i)
def rK (m i : Nat) : List (Int × Int) := List.replicate m (9000 + (i : Int), 0)
theorem rU_len (m i : Nat) : (rU m i).length = m := List.length_replicate
theorem rK_len (m i : Nat) : (rK m i).length = m := List.length_replicate
def Av (lo hi k : Nat) : Prop := k < lo ∨ hi ≤ k
def ptr (b : Nat) : Value := .pointer (some ⟨b, 0, none⟩)
/-- The lists that were handed out. -/
structure GV (lo hi B : Nat) (W : World) (gv gr : Value) (vs ws : List Value) (n : Nat) : Prop where
  gs : W.ownsRow B 22 1 gv n vs
  rs : W.ownsRow B 44 1 gr n ws
  vl : ∀ (i : Nat) v, vs[i]? = some v → ∃ m, m ≤ 1000 ∧ RowU W B v (rU m i)
  wl : ∀ (i : Nat) v, ws[i]? = some v → ∃ m, m ≤ 1000 ∧ RowK W B v (rK m i)
  ag : ∀ g, gv.ownBlock = some g → Av lo hi g
  ar : ∀ g, gr.ownBlock = some g → Av lo hi g
  av : ∀ v ∈ vs, ∀ g, v.ownBlock = some g → Av lo hi g
  aw : ∀ v ∈ ws, ∀ g, v.ownBlock = some g → Av lo hi g
structure PX (lo hi B : Nat) (W : World) (bp bd br be bq : Nat) (gv gr ev qv : Value) (vs ws : List Value) (D : List Int) (R : List (Int × Int)) (n : Nat) : Prop where
  blk : W.heap[bp]? = some (.cells [ptr bd, ptr br, ptr be, ptr bq, gv, gr].toArray 70 (0, 0))
  hbp : B ≤ bp
  abp : Av lo hi bp
  d : HasD W bd D
  hbd : B ≤ bd
  abd : Av lo hi bd
  r : HasR W br R
  hbr : B ≤ br
  abr : Av lo hi br
  e : EV W B be ev D
  abe : Av lo hi be
  ae : ∀ g, ev.ownBlock = some g → Av lo hi g
  q : QV W B bq qv R
  abq : Av lo hi bq
  aq : ∀ g, qv.ownBlock = some g → Av lo hi g
  g : GV lo hi B W gv gr vs ws n
section
variable {lo hi B : Nat} {W W' : World} {bp bd br be bq : Nat} {gv gr ev qv : Value} {vs ws : List Value} {D : List Int} {R : List (Int × Int)} {n : Nat}
theorem own_touch {e : TypeId} {size : Nat} {v : Value} {n : Nat} {xs : List Value} (h : W.ownsRow B e size v n xs) (ha : ∀ g, v.ownBlock = some g → Av lo hi g) (k : ∀ i, i < W.heap.size → Av lo hi i → W'.heap[i]? = W.heap[i]?) : W'.ownsRow B e size v n xs :=
  own_kept h fun g e hg => k g hg (ha g e)
theorem GV.touch (h : GV lo hi B W gv gr vs ws n) (k : ∀ i, i < W.heap.size → Av lo hi i → W'.heap[i]? = W.heap[i]?) : GV lo hi B W' gv gr vs ws n :=
  { h with
    gs := own_touch h.gs h.ag k
    rs := own_touch h.rs h.ar k
    vl := fun i v hv => by obtain ⟨m, hm, e⟩ := h.vl i v hv; exact ⟨m, hm, own_touch e (h.av v (List.mem_of_getElem? hv)) k⟩
    wl := fun i v hv => by obtain ⟨m, hm, e⟩ := h.wl i v hv; exact ⟨m, hm, own_touch e (h.aw v (List.mem_of_getElem? hv)) k⟩ }
/-- What lies elsewhere may change. -/
theorem PX.touch (h : PX lo hi B W bp bd br be bq gv gr ev qv vs ws D R n) (k : ∀ i, i < W.heap.size → Av lo hi i → W'.heap[i]? = W.heap[i]?) : PX lo hi B W' bp bd br be bq gv gr ev qv vs ws D R n :=
  { h with
    blk := (k _ (lt_of h.blk) h.abp).trans h.blk
    d := h.d.kept (k _ (lt_of h.d.1) h.abd)
    r := h.r.kept (k _ (lt_of h.r.1) h.abr)
    e := ⟨(k _ (lt_of h.e.blk) h.abe).trans h.e.blk, own_touch h.e.row h.ae k, h.e.hb, h.e.len⟩
    q := ⟨(k _ (lt_of h.q.blk) h.abq).trans h.q.blk, own_touch h.q.row h.aq k, h.q.hb, h.q.len⟩
    g := h.g.touch k }
theorem PX.below (h : PX lo hi B W bp bd br be bq gv gr ev qv vs ws D R n) (k : Below W.heap.size W W') : PX lo hi B W' bp bd br be bq gv gr ev qv vs ws D R n := h.touch fun i hi _ => k.block i hi
theorem PX.drewN (h : PX lo hi B W bp bd br be bq gv gr ev qv vs ws D R n) (q : Nat) : PX lo hi B (W.drewN q) bp bd br be bq gv gr ev qv vs ws D R n := h.touch (W' := W.drewN q) fun _ _ _ => rfl
theorem PX.free (h : PX lo hi B W bp bd br be bq gv gr ev qv vs ws D R n) : PX 0 0 B W bp bd br be bq gv gr ev qv vs ws D R n :=
  have a : ∀ k, Av 0 0 k := fun k => .inr (Nat.zero_le _)
  { h with abp := a _, abd := a _, abr := a _, abe := a _, ae := fun _ _ => a _, abq := a _, aq := fun _ _ => a _, g := { h.g with ag := fun _ _ => a _, ar := fun _ _ => a _, av := fun _ _ _ _ => a _, aw := fun _ _ _ _ => a _ } }
/-- All that there is lies below what is new. -/
theorem PX.enter (h : PX lo hi B W bp bd br be bq gv gr ev qv vs ws D R n) (hi' : Nat) : PX W.heap.size hi' B W bp bd br be bq gv gr ev qv vs ws D R n :=
  { h with
    abp := .inl (lt_of h.blk), abd := .inl (lt_of h.d.1), abr := .inl (lt_of h.r.1), abe := .inl (lt_of h.e.blk), ae := fun g e => .inl (h.e.row.lt g e).2, abq := .inl (lt_of h.q.blk), aq := fun g e => .inl (h.q.row.lt g e).2
    g := { h.g with
      ag := fun g e => .inl (h.g.gs.lt g e).2
      ar := fun g e => .inl (h.g.rs.lt g e).2
      av := fun v hv g e => by obtain ⟨i, hi⟩ := List.mem_iff_getElem?.1 hv; obtain ⟨m, _, r⟩ := h.g.vl i v hi; exact .inl (r.lt g e).2
      aw := fun v hv g e => by obtain ⟨i, hi⟩ := List.mem_iff_getElem?.1 hv; obtain ⟨m, _, r⟩ := h.g.wl i v hi; exact .inl (r.lt g e).2 } }
theorem GV.kt {S : TypeId → Prop} {B0 : Nat} (h : GV lo hi B W gv gr vs ws n) (k : KT S B0 W W') (h1 : ¬ S 22) (h2 : ¬ S 44) (h3 : ¬ S 32) (h4 : ¬ S 43) : GV lo hi B W' gv gr vs ws n :=
  { h with
    gs := k.own h.gs h1
    rs := k.own h.rs h2
    vl := fun i v hv => by obtain ⟨m, hm, e⟩ := h.vl i v hv; exact ⟨m, hm, k.own e h3⟩
    wl := fun i v hv => by obtain ⟨m, hm, e⟩ := h.wl i v hv; exact ⟨m, hm, k.own e h4⟩ }
/-- One call on both sides. -/
theorem PX.upd {S : TypeId → Prop} {B0 : Nat} {D' : List Int} {R' : List (Int × Int)} {ev' qv' : Value} (h : PX lo hi B W bp bd br be bq gv gr ev qv vs ws D R n) (k : KT S B0 W W') (h1 : ¬ S 22) (h2 : ¬ S 44) (h3 : ¬ S 32) (h4 : ¬ S 43) (h5 : ¬ S 70)
    (d : HasD W' bd D') (r : HasR W' br R') (e : EV W' B be ev' D') (ne : ∀ g, ev'.ownBlock = some g → Av lo hi g) (q : QV W' B bq qv' R') (nq : ∀ g, qv'.ownBlock = some g → Av lo hi g) : PX lo hi B W' bp bd br be bq gv gr ev' qv' vs ws D' R' n :=
  { h with blk := k.typ _ _ _ _ h.blk h5, d := d, r := r, e := e, ae := ne, q := q, aq := nq, g := h.g.kt k h1 h2 h3 h4 }
end
end Go.Proofs.Ytcnhfgoflfnocaa
