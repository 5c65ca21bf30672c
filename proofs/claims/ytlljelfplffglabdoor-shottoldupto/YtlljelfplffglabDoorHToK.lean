import Derived.Test.YtlljelfplffglabDoorHRDig
import Derived.Test.YtlljelfplffglabDoorHRm
import Derived.Test.YtlljelfplffglabDoorSRow
import Derived.Laws.StructEq
/-! What ShotTold wants: tones written over, bytes written over, the law's own memory. -/
namespace Go.Proofs.YtlljelfplffglabDoor.H
open Go.RowKit
open Go.Proofs
open Go.Proofs.YtlljelfplffglabDoor.K
set_option linter.unusedVariables false
set_option linter.unusedSimpArgs false
set_option maxHeartbeats 2000000
set_option maxRecDepth 100000
def bumpT (t : Tn) : Tn := ⟨t.c, t.p + 1, t.v⟩
theorem bumpT_p (p : UInt16) : IntKind.u16.wrap ((p.toNat : Int) + 1) = (((p + 1 : UInt16)).toNat : Int) := by
  have h := p.toNat_lt
  rw [UInt16.toNat_add]
  simp [IntKind.wrap, IntKind.bits, IntKind.signed]
theorem bumpB (b : UInt8) : IntKind.u8.wrap ((b.toNat : Int) + 1) = (((b + 1 : UInt8)).toNat : Int) := by
  have h := b.toNat_lt
  rw [UInt8.toNat_add]
  simp [IntKind.wrap, IntKind.bits, IntKind.signed]
/-- The first k written over by f. -/
def uw {α : Type} (f : α → α) (k : Nat) (l : List α) : List α := (l.take k).map f ++ l.drop k
theorem uw_zero {α : Type} (f : α → α) (l : List α) : uw f 0 l = l := by simp [uw]
theorem uw_len {α : Type} (f : α → α) (k : Nat) (l : List α) (h : k ≤ l.length) : (uw f k l).length = l.length := by simp [uw]; omega
theorem uw_get {α : Type} (f : α → α) (k : Nat) (l : List α) (h : k < l.length) : (uw f k l)[k]? = some l[k] := by
  have e : ((l.take k).map f).length = k := by simp; omega
  rw [uw, List.getElem?_append_right (by omega), e, Nat.sub_self, List.getElem?_drop, Nat.add_zero, List.getElem?_eq_getElem h]
theorem uw_set {α : Type} (f : α → α) (k : Nat) (l : List α) (h : k < l.length) : (uw f k l).set k (f l[k]) = uw f (k + 1) l := by
  have e : ((l.take k).map f).length = k := by simp; omega
  rw [uw, List.set_append_right _ _ (by omega), e, Nat.sub_self, List.drop_eq_getElem_cons h, List.set_cons_zero, uw, ← List.take_append_getElem h, List.map_append, List.append_assoc]
  rfl
theorem uw_all {α : Type} (f : α → α) (l : List α) : uw f l.length l = l.map f := by simp [uw]
theorem uw_in (k : Nat) (ts : List Tn) (h : ∀ t ∈ ts, inI t.c) : ∀ t ∈ uw bumpT k ts, inI t.c := by
  intro t ht
  simp only [uw, List.mem_append, List.mem_map] at ht
  rcases ht with ⟨x, hx, rfl⟩ | hx
  · exact h x (List.mem_of_mem_take hx)
  · exact h t (List.mem_of_mem_drop hx)
theorem en_setT : ∀ (l : List Tn) (k : Nat) (t : Tn) (p : UInt16), l[k]? = some t → (S.en eT l).set (k * 3 + 1) (.int .u16 (p.toNat : Int)) = S.en eT (l.set k ⟨t.c, p, t.v⟩)
  | [], k, c, n, h => by simp at h
  | d :: l, 0, c, n, h => by
    simp only [List.getElem?_cons_zero, Option.some.injEq] at h
    subst h
    rw [List.set_cons_zero, S.en_cons, S.en_cons]
    rfl
  | d :: l, k + 1, c, n, h => by
    simp only [List.getElem?_cons_succ] at h
    rw [List.set_cons_succ, S.en_cons, S.en_cons, ← en_setT l k c n h, List.set_append_right _ _ (by rw [hT3]; omega), hT3]
    rw [show (k + 1) * 3 + 1 - 3 = k * 3 + 1 by omega]
theorem bv_set (l : List UInt8) (k : Nat) (b : UInt8) : (bv l).set k (.int .u8 (b.toNat : Int)) = bv (l.set k b) := by
  unfold bv
  rw [List.map_set]
def zTn : Value := .agg #[.int .i64 0, .int .u16 0, .int .u8 0]
theorem infoTn : (Tryd.prog.info? 39).map (fun i => (i.zero, i.size, i.bytes)) = some (some zTn, 3, 16) := by kernel_rfl
theorem oneTn (l : List Tn) : ∀ u ∈ S.en eT l, u.oneCell' = true := by
  intro u hu
  simp only [S.en, List.mem_flatMap] at hu
  obtain ⟨t, _, ht⟩ := hu
  simp only [eT, List.mem_cons, List.not_mem_nil, or_false] at ht
  rcases ht with rfl | rfl | rfl <;> rfl
def mkT : Tn := ⟨777, 0, 0⟩
/-- The one tone that is appended, in a block of its own. -/
structure T1 (G : Nat) (W : World) (v : Value) : Prop where
  blk : W.heap[G]? = some (.cells #[.int .i64 777, .int .u16 0, .int .u8 0] 39 (0, 0))
  sep : v.ownBlock ≠ some G
theorem T1.next {G : Nat} {W W' : World} {v : Value} (h : T1 G W v) (k : Below W.heap.size W W') : T1 G W' v := ⟨(k.block _ (Array.getElem?_eq_some_iff.1 h.blk).1).trans h.blk, h.sep⟩
theorem T1.grow {G : Nat} {W W' : World} {v v' : Value} (h : T1 G W v) (g : S.Grew W W' v v') : T1 G W' v' := by
  have hl := (Array.getElem?_eq_some_iff.1 h.blk).1
  refine ⟨(g.block _ hl (fun e => h.sep e.symm)).trans h.blk, fun e => ?_⟩
  rcases g.own with k | k
  · rw [k] at e; exact h.sep e
  · have := k _ e; omega
theorem T1.cs {G : Nat} {W : World} {v : Value} (h : T1 G W v) : S.Cs W (.slice (some ⟨G, 0, none⟩) 1 1) 3 1 (eT mkT) := by
  refine .inr ⟨⟨G, 0, none⟩, 1, rfl, rfl, fun j v hj => ?_, fun v hv => ?_⟩
  · rw [Addr.add_lit, Nat.zero_add]
    have e : (#[.int .i64 777, .int .u16 0, .int .u8 0] : Array Value) = (eT mkT).toArray := rfl
    have hb := h.blk
    rw [e] at hb
    exact S.cell_of _ _ _ (eT mkT) _ v hb hj
  · have := oneTn [mkT] v
    simp only [S.en, List.flatMap_cons, List.flatMap_nil, List.append_nil] at this
    exact this hv
theorem emp_tn (W : World) (N : Nat) (hN : N ≤ W.heap.size) : (W.alloc (.cells #[] 39)).ownsRow N 39 3 (.slice (some ⟨W.heap.size, 0, none⟩) 0 0) 0 [] :=
  ⟨rfl, .inr ⟨W.heap.size, 0, #[], rfl, hN, heap_alloc_new W _, Nat.le_refl _, by decide, rfl, rfl⟩⟩
theorem own_fzT {W : World} {B g n n' cap size : Nat} {e : TypeId} {xs : List Value} (h : W.ownsRow B e size (.slice (some ⟨g, 0, none⟩) n cap) n' xs) (j : Nat) : W.frozen? ⟨g, j, none⟩ = false := by
  rcases h.2 with ⟨e, _⟩ | ⟨g', cap', cur, e, _, hg, _⟩
  · cases e
  · simp only [Value.slice.injEq, Option.some.injEq, Addr.mk.injEq] at e
    obtain ⟨⟨rfl, _⟩, _⟩ := e
    simp [World.frozen?, hg]
theorem own_ty {W : World} {B g n n' cap size : Nat} {e : TypeId} {xs : List Value} (h : W.ownsRow B e size (.slice (some ⟨g, 0, none⟩) n cap) n' xs) : ∃ c, W.heap[g]? = some (.cells c e (0, 0)) := by
  rcases h.2 with ⟨e, _⟩ | ⟨g', cap', cur, e, _, hg, _⟩
  · cases e
  · simp only [Value.slice.injEq, Option.some.injEq, Addr.mk.injEq] at e
    obtain ⟨⟨rfl, _⟩, _⟩ := e
    exact ⟨_, hg⟩
theorem blkT {g n c i : Nat} (h : (Value.slice (some ⟨g, 0, none⟩) n c).ownBlock = some i) : g = i := by simpa [Value.ownBlock] using h
theorem ton_F : Tryd.prog.underlying 39 = some (.struct (Tryd.prog.fieldsOf 39)) ∧ Tryd.prog.fieldsOf 39 = #[⟨ "Cycle", 3, 0, false, "", "", 0⟩, ⟨ "Pitch", 37, 1, false, "", "", 8⟩, ⟨ "Volume", 5, 2, false, "", "", 10⟩] ∧ Tryd.prog.stoodInHeld 39 = false ∧ Tryd.prog.cellsOf 3 = 1 ∧ Tryd.prog.cellsOf 37 = 1 ∧ Tryd.prog.cellsOf 5 = 1 :=
  ⟨by kernel_rfl, by kernel_rfl, by kernel_rfl, by kernel_rfl, by kernel_rfl, by kernel_rfl⟩
theorem neq_ton (W : World) (c p v : Int) : (binOp .neq 39 (.agg #[.int .i64 c, .int .u16 p, .int .u8 v]) (.agg #[.int .i64 c, .int .u16 p, .int .u8 v])).run Tryd.prog W = .ok (.bool false) W := by
  obtain ⟨hs, hf, hp, k3, k16, k5⟩ := ton_F
  rw [run_neq_struct, run_equalIn_agg W 9999 _ _ _ hs hp, hf]
  simp [go_sem, Tryd.underlying3, Tryd.underlying37, Tryd.underlying5, k3, k16, k5, Result.andThen]
/-- The law's memory: the boxes of o and x, the screen's copy with its marks. -/
structure T0 (W : World) (B X gs cap m : Nat) (CO CX : Array Value) (s : List UInt8) (w : World) : Prop where
  below : Below B W w
  bo : w.heap[B]? = some (.cells CO 44 (0, 0))
  bx : w.heap[X]? = some (.cells CX 44 (0, 0))
  scr : Row w (B + 1) (.slice (some ⟨gs, 0, none⟩) (m + 3) cap) (s ++ mks)
  len : s.length = m
  xb : B < X
theorem T0.next {W : World} {B X gs cap m : Nat} {CO CX : Array Value} {s : List UInt8} {w w' : World} (h : T0 W B X gs cap m CO CX s w) (b : Below w.heap.size w w') : T0 W B X gs cap m CO CX s w' :=
  ⟨h.below.trans (b.mono (by have := (Array.getElem?_eq_some_iff.1 h.bo).1; omega)), (b.block _ (Array.getElem?_eq_some_iff.1 h.bo).1).trans h.bo, (b.block _ (Array.getElem?_eq_some_iff.1 h.bx).1).trans h.bx, h.scr.below b, h.len, h.xb⟩
/-- With the tones' copy and the one tone more behind it. -/
structure TS (W : World) (B X gs cap m gl cl n : Nat) (CO CX : Array Value) (s : List UInt8) (l : List Tn) (w : World) : Prop where
  t0 : T0 W B X gs cap m CO CX s w
  tn : w.ownsRow (B + 1) 39 3 (.slice (some ⟨gl, 0, none⟩) (n + 1) cl) (n + 1) (S.en eT (l ++ [mkT]))
  ln : l.length = n
theorem TS.next {W : World} {B X gs cap m gl cl n : Nat} {CO CX : Array Value} {s : List UInt8} {l : List Tn} {w w' : World} (h : TS W B X gs cap m gl cl n CO CX s l w) (b : Below w.heap.size w w') : TS W B X gs cap m gl cl n CO CX s l w' :=
  ⟨h.t0.next b, S.own_kept h.tn (fun g _ hg => b.block g hg), h.ln⟩
theorem TS.sl {W : World} {B X gs cap m gl cl n : Nat} {CO CX : Array Value} {s : List UInt8} {l : List Tn} {w : World} (h : TS W B X gs cap m gl cl n CO CX s l w) : Rmd w (B + 1) (.slice (some ⟨gs, 0, none⟩) m cap) s := by
  have h1 := h.t0.scr
  have h2 := h.t0.len
  subst h2
  exact ⟨gs, cap, rfl, h1⟩
theorem TS.ls {W : World} {B X gs cap m gl cl n : Nat} {CO CX : Array Value} {s : List UInt8} {l : List Tn} {w : World} (h : TS W B X gs cap m gl cl n CO CX s l w) : S.Ls eT 3 w (.slice (some ⟨gl, 0, none⟩) n cl) l ∧ S.Ls eT 3 w (.slice (some ⟨gl, 0, none⟩) (n + 1) cl) (l ++ [mkT]) := by
  have h0 := h.tn
  have hn := h.ln
  subst hn
  have e : (l ++ [mkT]).length = l.length + 1 := by simp
  rw [← e] at h0
  have hs := S.own_sl hT3 h0
  refine ⟨?_, by rw [← e]; exact hs⟩
  rcases hs with ⟨h1, _⟩ | ⟨y, c, h1, h2, h3⟩
  · cases h1
  · simp only [Value.slice.injEq, Option.some.injEq] at h1
    obtain ⟨rfl, _, rfl⟩ := h1
    refine .inr ⟨_, _, rfl, by omega, fun k c hk => ?_⟩
    have hlt : k < l.length := by
      by_cases h : k < l.length
      · exact h
      · rw [List.getElem?_eq_none (by omega)] at hk; cases hk
    exact h3 k c (by rw [List.getElem?_append_left hlt]; exact hk)
theorem TS.at {W : World} {B X gs cap m gl cl n : Nat} {CO CX : Array Value} {s : List UInt8} {l : List Tn} {w : World} (h : TS W B X gs cap m gl cl n CO CX s l w) (k : Nat) (t : Tn) (hk : (l ++ [mkT])[k]? = some t) :
    w.cell? ⟨gl, k * 3, none⟩ = some (.int .i64 t.c) ∧ w.cell? ⟨gl, k * 3 + 1, none⟩ = some (.int .u16 (t.p.toNat : Int)) ∧ w.cell? ⟨gl, k * 3 + 2, none⟩ = some (.int .u8 (t.v.toNat : Int)) := by
  obtain ⟨pp, cpp, e1, _, sl⟩ := h.ls.2.ex
  have e2 : pp = some ⟨gl, 0, none⟩ := by
    simp only [Value.slice.injEq] at e1
    exact e1.1.symm
  subst e2
  obtain ⟨b0, o0, e0, hc⟩ := sl k t hk
  simp only [Option.some.injEq, Addr.mk.injEq] at e0
  obtain ⟨rfl, rfl, _⟩ := e0
  exact ⟨by simpa using hc 0 _ rfl, by simpa using hc 1 _ rfl, by simpa using hc 2 _ rfl⟩
theorem TS.setT {W : World} {B X gs cap m gl cl n : Nat} {CO CX : Array Value} {s : List UInt8} {l : List Tn} {w : World} (h : TS W B X gs cap m gl cl n CO CX s l w) (k : Nat) (t : Tn) (p : UInt16) (hk : l[k]? = some t) :
    TS W B X gs cap m gl cl n CO CX s (l.set k ⟨t.c, p, t.v⟩) (w.setCell ⟨gl, k * 3 + 1, none⟩ (.int .u16 (p.toNat : Int))) := by
  have hlt : k < l.length := (List.getElem?_eq_some_iff.1 hk).1
  obtain ⟨c1, h1⟩ := own_ty h.tn
  obtain ⟨c2, h2⟩ := own_ty h.t0.scr
  have n1 : B ≠ gl := by rintro rfl; have := h.t0.bo; rw [h1] at this; simp at this
  have n2 : X ≠ gl := by rintro rfl; have := h.t0.bx; rw [h1] at this; simp at this
  have n3 : gs ≠ gl := by rintro rfl; rw [h1] at h2; simp at h2
  have hg := h.tn.lt gl rfl
  refine ⟨⟨h.t0.below.setCell (p := ⟨gl, k * 3 + 1, none⟩) (by show B ≤ gl; omega) _, ?_, ?_, ?_, h.t0.len, h.t0.xb⟩, ?_, by rw [List.length_set]; exact h.ln⟩
  · rw [heap_setCell_other w ⟨gl, k * 3 + 1, none⟩ B _ n1]; exact h.t0.bo
  · rw [heap_setCell_other w ⟨gl, k * 3 + 1, none⟩ X _ n2]; exact h.t0.bx
  · exact h.t0.scr.kept fun g e _ => heap_setCell_other w ⟨gl, k * 3 + 1, none⟩ g _ (blkT e ▸ n3)
  · have q := (World.ownsRow.stored h.tn (k * 3 + 1) (.int .u16 (p.toNat : Int))).1
    rw [en_setT _ k t p (by rw [List.getElem?_append_left hlt]; exact hk), List.set_append_left _ _ hlt] at q
    exact q
theorem TS.setS {W : World} {B X gs cap m gl cl n : Nat} {CO CX : Array Value} {s : List UInt8} {l : List Tn} {w : World} (h : TS W B X gs cap m gl cl n CO CX s l w) (k : Nat) (b : UInt8) (hk : k < s.length) :
    TS W B X gs cap m gl cl n CO CX (s.set k b) l (w.setCell ⟨gs, k, none⟩ (.int .u8 (b.toNat : Int))) := by
  obtain ⟨c1, h1⟩ := own_ty h.tn
  obtain ⟨c2, h2⟩ := own_ty h.t0.scr
  have n1 : B ≠ gs := by rintro rfl; have := h.t0.bo; rw [h2] at this; simp at this
  have n2 : X ≠ gs := by rintro rfl; have := h.t0.bx; rw [h2] at this; simp at this
  have n3 : gl ≠ gs := by rintro rfl; rw [h1] at h2; simp at h2
  have hg := h.t0.scr.lt gs rfl
  refine ⟨⟨h.t0.below.setCell (p := ⟨gs, k, none⟩) (by show B ≤ gs; omega) _, ?_, ?_, ?_, by rw [List.length_set]; exact h.t0.len, h.t0.xb⟩, ?_, h.ln⟩
  · rw [heap_setCell_other w ⟨gs, k, none⟩ B _ n1]; exact h.t0.bo
  · rw [heap_setCell_other w ⟨gs, k, none⟩ X _ n2]; exact h.t0.bx
  · have hl : (s ++ mks).length = m + 3 := by rw [List.length_append, h.t0.len]; rfl
    have hl2 : (s.set k b ++ mks).length = m + 3 := by rw [List.length_append, List.length_set, h.t0.len]; rfl
    have q0 : w.ownsRow (B + 1) 5 1 (.slice (some ⟨gs, 0, none⟩) (m + 3) cap) (m + 3) (bv (s ++ mks)) := by
      have := h.t0.scr
      unfold Row at this
      rw [hl] at this
      exact this
    have q := (World.ownsRow.stored q0 k (.int .u8 (b.toNat : Int))).1
    rw [bv_set, List.set_append_left _ _ hk] at q
    show World.ownsRow _ _ _ _ _ _ _
    rw [hl2]
    exact q
  · exact S.own_kept h.tn fun g e _ => heap_setCell_other w ⟨gs, k, none⟩ g _ (blkT e ▸ n3)
theorem TS.byte {W : World} {B X gs cap m gl cl n : Nat} {CO CX : Array Value} {s : List UInt8} {l : List Tn} {w : World} (h : TS W B X gs cap m gl cl n CO CX s l w) (k : Nat) (b : UInt8) (hk : s[k]? = some b) : w.cell? ⟨gs, k, none⟩ = some (.int .u8 (b.toNat : Int)) :=
  rowAt h.t0.scr k b (by rw [List.getElem?_append_left (List.getElem?_eq_some_iff.1 hk).1]; exact hk)
/-- x.Tones is stored. -/
theorem TS.make {W : World} {B X gs cap m gl cl n : Nat} {CO : Array Value} {z0 z1 z2 z3 z4 v5 v6 : Value} {s : List UInt8} {l : List Tn} {w : World} {N : Nat} (h : T0 W B X gs cap m CO #[z0, z1, z2, z3, z4, v5, v6] s w)
    (ht : w.ownsRow N 39 3 (.slice (some ⟨gl, 0, none⟩) (n + 1) cl) (n + 1) (S.en eT l ++ eT mkT)) (hN : B + 1 ≤ N) (hn : l.length = n) (v' : Value) :
    TS W B X gs cap m gl cl n CO #[z0, z1, z2, z3, z4, v5, v'] s l (w.setCell ⟨X, 6, none⟩ v') := by
  obtain ⟨c1, h1⟩ := own_ty ht
  obtain ⟨c2, h2⟩ := own_ty h.scr
  have n2 : gl ≠ X := by rintro rfl; have := h.bx; rw [h1] at this; simp at this
  have n3 : gs ≠ X := by rintro rfl; have := h.bx; rw [h2] at this; simp at this
  have e : S.en eT (l ++ [mkT]) = S.en eT l ++ eT mkT := by rw [S.en_append]; simp [S.en]
  refine ⟨⟨h.below.setCell (p := ⟨X, 6, none⟩) (by have := h.xb; show B ≤ X; omega) _, ?_, ?_, ?_, h.len, h.xb⟩, ?_, hn⟩
  · rw [heap_setCell_other w ⟨X, 6, none⟩ B _ (by have := h.xb; show B ≠ X; omega)]; exact h.bo
  · exact heap_setCell_same w X 6 _ _ _ h.bx
  · exact h.scr.kept fun g e _ => heap_setCell_other w ⟨X, 6, none⟩ g _ (blkT e ▸ n3)
  · rw [e]
    have q := S.own_kept ht fun g e _ => heap_setCell_other w ⟨X, 6, none⟩ g v' (blkT e ▸ n2)
    obtain ⟨q1, q2⟩ := q
    refine ⟨q1, ?_⟩
    rcases q2 with q2 | ⟨g, c, cur, a1, a2, a3⟩
    · exact .inl q2
    · exact .inr ⟨g, c, cur, a1, by omega, a3⟩
end Go.Proofs.YtlljelfplffglabDoor.H
