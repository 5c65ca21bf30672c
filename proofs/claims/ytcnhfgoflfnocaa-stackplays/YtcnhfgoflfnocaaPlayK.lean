import Derived.Test.YtcnhfgoflfnocaaMadeW
import Derived.Deep.DeepCutAuto
/-! The law's plays. -/
namespace Go.Proofs.Ytcnhfgoflfnocaa
open Go.RowKit
open Go.Proofs
set_option linter.unusedVariables false
set_option linter.unusedSimpArgs false
/-- The op's cells. -/
def opc (k a b : Int) (v u : Value) : List Value := [.int .i64 k, .int .i64 a, .int .i64 b, v, u]
/-- All that plays holds: the pair, the op's box, the two copies; lo, hi: the blocks of the box and the copies. -/
structure QS (lo hi B bp n bo gc cc gk ck : Nat) (k a b : Int) (v u : Value) (l : List Int) (m : List (Int × Int)) (w0 W : World) : Prop where
  p : PE lo hi B W bp n
  bel : Below B w0 W
  o : W.heap[bo]? = some (.cells (opc k a b v u).toArray 73 (0, 0))
  c : CU W lo gc cc l
  k : CK W lo gk ck m
  lb : B ≤ lo
  bo1 : lo ≤ bo
  hs : hi ≤ W.heap.size
  gh : gc < hi ∧ gk < hi
/-- The args' lists lie below. -/
structure AR (B : Nat) (w0 : World) (v u : Value) (l : List Int) (m : List (Int × Int)) : Prop where
  sz : w0.heap.size = B
  x : Ls eU 1 w0 v l
  y : Ls eK 2 w0 u m
  hl : l.length * 2 + 4096 ≤ room
  hm : m.length * 16 + 4096 ≤ room
theorem AR.at {B : Nat} {w0 W : World} {v u : Value} {l : List Int} {m : List (Int × Int)} (h : AR B w0 v u l m) (k : ∀ i, i < B → W.heap[i]? = w0.heap[i]?) : Ls eU 1 W v l ∧ Ls eK 2 W u m := by
  have hs := h.sz
  have e : ∀ {α : Type} {e : α → List Value} {s : Nat} {v : Value} {l : List α}, Ls e s w0 v l → Ls e s W v l := by
    intro α e s v l hx
    rcases hx with hx | ⟨x, c, e1, e2, e3⟩
    · exact .inl hx
    · exact .inr ⟨x, c, e1, e2, e3.kept fun b o u _ i hu => by rw [World.cell?_of_block (k b (by have := World.block_lt_of_cell? w0 _ hu; simp at this; omega))]; exact hu⟩
  exact ⟨e h.x, e h.y⟩

theorem QS.step {lo hi B bp n bo gc cc gk ck : Nat} {k a b : Int} {v u : Value} {l : List Int} {m : List (Int × Int)} {w0 W W' : World} {S : TypeId → Prop} (h : QS lo hi B bp n bo gc cc gk ck k a b v u l m w0 W) (kt : KT S B W W') (h1 : ¬ S 73) (h2 : ¬ S 32) (h3 : ¬ S 43) (p : PE lo hi B W' bp n) : QS lo hi B bp n bo gc cc gk ck k a b v u l m w0 W' :=
  ⟨p, h.bel.trans kt.bel, kt.typ _ _ _ _ h.o h1, h.c.kt kt h2, h.k.kt kt h3, h.lb, h.bo1, Nat.le_trans h.hs kt.bel.size, h.gh⟩
theorem AR.of {B : Nat} {w0 W : World} {v u : Value} {l : List Int} {m : List (Int × Int)} (h : AR B w0 v u l m) (k : Below B w0 W) : Ls eU 1 W v l ∧ Ls eK 2 W u m := h.at fun i hi => k.block i hi

theorem step16 {ops : Array Oper} {o : Oper} {a : Act} {w : World} {K : Act → World → Prop} {Q : Exit → Act → World → Prop} {E : Prop} (hgd : o.guard = none) (s0 : Operand) (ho : o.op = .call { callee := .value (.func 16), args := #[s0], argTypes := #[23] })
    (u0 : Value) (h0 : a.eval s0 = u0) {Post : Ending → World → Prop} (hc : Calls Try.prog 16 #[u0] w Post) (h : ∀ e w', Post e w' → ∃ v, e = .returned v ∧ K (a.put o.dst v) w') :
    if Region.wanted o (yielded ops a.tmps) = true then Oper.wp Try.prog o a w K Q else E := by
  have hw : Region.wanted o (yielded ops a.tmps) = true := by simp [Region.wanted, hgd]
  rw [if_pos hw]
  unfold Oper.wp execOp
  simp only [ho, resolve, invoke, Sem.run_bind, Sem.run_pure, Result.andThen_ok, List.map_toArray, List.map_cons, List.map_nil, h0, Try.call16]
  refine hc.mono ?_
  intro e w' hp
  obtain ⟨v, rfl, hk⟩ := h e w' hp
  exact hk
theorem step19 {ops : Array Oper} {o : Oper} {a : Act} {w : World} {K : Act → World → Prop} {Q : Exit → Act → World → Prop} {E : Prop} (hgd : o.guard = none) (s0 : Operand) (ho : o.op = .call { callee := .value (.func 19), args := #[s0], argTypes := #[24] })
    (u0 : Value) (h0 : a.eval s0 = u0) {Post : Ending → World → Prop} (hc : Calls Try.prog 19 #[u0] w Post) (h : ∀ e w', Post e w' → ∃ v, e = .returned v ∧ K (a.put o.dst v) w') :
    if Region.wanted o (yielded ops a.tmps) = true then Oper.wp Try.prog o a w K Q else E := by
  have hw : Region.wanted o (yielded ops a.tmps) = true := by simp [Region.wanted, hgd]
  rw [if_pos hw]
  unfold Oper.wp execOp
  simp only [ho, resolve, invoke, Sem.run_bind, Sem.run_pure, Result.andThen_ok, List.map_toArray, List.map_cons, List.map_nil, h0, Try.call19]
  refine hc.mono ?_
  intro e w' hp
  obtain ⟨v, rfl, hk⟩ := h e w' hp
  exact hk
theorem step41 {ops : Array Oper} {o : Oper} {a : Act} {w : World} {K : Act → World → Prop} {Q : Exit → Act → World → Prop} {E : Prop} (hgd : o.guard = none) (s0 s1 s2 : Operand) (ho : o.op = .call { callee := .value (.func 41), args := #[s0, s1, s2], argTypes := #[55, 22, 44] })
    (u0 u1 u2 : Value) (h0 : a.eval s0 = u0) (h1 : a.eval s1 = u1) (h2 : a.eval s2 = u2) {Post : Ending → World → Prop} (hc : Calls Try.prog 41 #[u0, u1, u2] w Post) (h : ∀ e w', Post e w' → ∃ v, e = .returned v ∧ K (a.put o.dst v) w') :
    if Region.wanted o (yielded ops a.tmps) = true then Oper.wp Try.prog o a w K Q else E := by
  have hw : Region.wanted o (yielded ops a.tmps) = true := by simp [Region.wanted, hgd]
  rw [if_pos hw]
  unfold Oper.wp execOp
  simp only [ho, resolve, invoke, Sem.run_bind, Sem.run_pure, Result.andThen_ok, List.map_toArray, List.map_cons, List.map_nil, h0, h1, h2, Try.call41]
  refine hc.mono ?_
  intro e w' hp
  obtain ⟨v, rfl, hk⟩ := h e w' hp
  exact hk
section
variable {lo hi B bp n bo gc cc gk ck : Nat} {k a b : Int} {v u : Value} {l : List Int} {m : List (Int × Int)} {w0 W : World} {bd br be bq : Nat} {gv gr ev qv : Value} {vs ws : List Value} {D : List Int} {R : List (Int × Int)}
/-- The cells that are read. -/
theorem cs_at {W' : World} {S : TypeId → Prop} {B' : Nat} (P : PX lo hi B W bp bd br be bq gv gr ev qv vs ws D R n) (Q : QS lo hi B bp n bo gc cc gk ck k a b v u l m w0 W) (kt : KT S B' W W') (h1 : ¬ S 70) (h2 : ¬ S 73) :
    (W'.cell? ⟨bp, 0, none⟩ = some (.pointer (some ⟨bd, 0, none⟩)) ∧ W'.cell? ⟨bp, 1, none⟩ = some (.pointer (some ⟨br, 0, none⟩)) ∧ W'.cell? ⟨bp, 2, none⟩ = some (.pointer (some ⟨be, 0, none⟩)) ∧ W'.cell? ⟨bp, 3, none⟩ = some (.pointer (some ⟨bq, 0, none⟩))) ∧
    (W'.cell? ⟨bo, 1, none⟩ = some (.int .i64 a) ∧ W'.cell? ⟨bo, 2, none⟩ = some (.int .i64 b) ∧ W'.cell? ⟨bo, 3, none⟩ = some v ∧ W'.cell? ⟨bo, 4, none⟩ = some u) := by
  have e1 := kt.typ _ _ _ _ P.blk h1
  have e2 := kt.typ _ _ _ _ Q.o h2
  exact ⟨⟨cell_of W' bp 0 _ 70 _ e1 rfl, cell_of W' bp 1 _ 70 _ e1 rfl, cell_of W' bp 2 _ 70 _ e1 rfl, cell_of W' bp 3 _ 70 _ e1 rfl⟩, cell_of W' bo 1 _ 73 _ e2 rfl, cell_of W' bo 2 _ 73 _ e2 rfl, cell_of W' bo 3 _ 73 _ e2 rfl, cell_of W' bo 4 _ 73 _ e2 rfl⟩
theorem KT.drew {S : TypeId → Prop} {B : Nat} {W W' : World} (h : KT S B W W') : KT S B W W'.drew := ⟨⟨h.bel.os, h.bel.tape, h.bel.output, h.bel.size, h.bel.block⟩, h.typ⟩
theorem nw_av {w : World} {v v' : Value} (h : Nw w v v') (ha : ∀ g, v.ownBlock = some g → Av lo hi g) (hs : hi ≤ w.heap.size) : ∀ g, v'.ownBlock = some g → Av lo hi g := fun g e => by
  rcases h g e with c | c
  · exact ha g c
  · exact .inr (Nat.le_trans hs c)
theorem PX.pe (P : PX lo hi B W bp bd br be bq gv gr ev qv vs ws D R n) : PE lo hi B W bp n := ⟨_, _, _, _, _, _, _, _, _, _, _, _, P⟩
theorem QV.kt' {S : TypeId → Prop} {B0 : Nat} {W' : World} (h : QV W B bq qv R) (kt : KT S B0 W W') (h1 : ¬ S 66) (h2 : ¬ S 43) : QV W' B bq qv R := h.kt kt h1 h2
/-- Push on the data stack, on both sides. -/
theorem kind2 (A : AR B w0 v u l m) (Q : QS lo hi B bp n bo gc cc gk ck k a b v u l m w0 W) (P : PX lo hi B W bp bd br be bq gv gr ev qv vs ws D R n) :
    ∃ F : Int, Calls Try.prog 12 #[.pointer (some ⟨bd, 0, none⟩), .slice (some ⟨gc, 0, none⟩) l.length cc] W.drew fun e W1 => e = .returned (.int .i64 F) ∧ (W1.cell? ⟨bp, 0, none⟩ = some (.pointer (some ⟨bd, 0, none⟩)) ∧ W1.cell? ⟨bp, 2, none⟩ = some (.pointer (some ⟨be, 0, none⟩)) ∧ W1.cell? ⟨bo, 3, none⟩ = some v) ∧
      Calls Try.prog 35 #[.pointer (some ⟨be, 0, none⟩), v] W1 fun e W2 => e = .returned (.int .i64 F) ∧ (W2.cell? ⟨bp, 0, none⟩ = some (.pointer (some ⟨bd, 0, none⟩)) ∧ W2.cell? ⟨bp, 2, none⟩ = some (.pointer (some ⟨be, 0, none⟩)) ∧ W2.cell? ⟨bo, 3, none⟩ = some v) ∧ QS lo hi B bp n bo gc cc gk ck k a b v u l m w0 W2 := by
  have hl := A.hl
  have kd : KT (fun t => t = 60 ∨ t = 63) B W W.drew := (KT.refl _ _ _).drew
  have Pd := P.touch (W' := W.drew) fun _ _ _ => rfl
  by_cases hf : D.length + l.length ≤ 256
  · refine ⟨0, (dpush_yes bd D l (some ⟨gc, 0, none⟩) cc W.drew Pd.d (Q.c.kt kd (by decide)).lsl hf).mono ?_⟩
    rintro e W1 ⟨rfl, d1, t1⟩
    have k0 : KT (fun t => t = 60) B W W1 := (KT.refl _ _ _).drew.trans (KT.at t1 Pd.d.1 rfl P.hbd)
    have k1 : KT (fun t => t = 60 ∨ t = 63) B W W1 := k0.mono fun t e => .inl e
    obtain ⟨c1, c2⟩ := cs_at P Q k1 (by decide) (by decide)
    refine ⟨rfl, ⟨c1.1, c1.2.2.1, c2.2.2.1⟩, ?_⟩
    refine (epush_yes be B ev D l v W1 (P.e.kt k0 (by decide) (by decide)) (A.of (Q.bel.trans k1.bel)).1 hf).mono ?_
    rintro e W2 ⟨rfl, ⟨ev', E2, nw⟩, k2⟩
    have k12 : KT (fun t => t = 60 ∨ t = 63) B W W2 := k1.trans (k2.mono fun t e => .inr e)
    obtain ⟨c1, c2⟩ := cs_at P Q k12 (by decide) (by decide)
    exact ⟨rfl, ⟨c1.1, c1.2.2.1, c2.2.2.1⟩, Q.step k12 (by decide) (by decide) (by decide) (PX.pe (P.upd k12 (by decide) (by decide) (by decide) (by decide) (by decide) ⟨k2.typ _ _ _ _ d1.1 (by decide), d1.2⟩ ⟨k12.typ _ _ _ _ P.r.1 (by decide), P.r.2⟩ E2 (nw_av nw P.ae (Nat.le_trans Q.hs k1.bel.size)) (P.q.kt k12 (by decide) (by decide)) P.aq))⟩
  · refine ⟨2, (dpush_no bd D l (some ⟨gc, 0, none⟩) cc W.drew Pd.d (by omega) (by omega)).mono ?_⟩
    rintro e W1 ⟨rfl, rfl⟩
    obtain ⟨c1, c2⟩ := cs_at P Q kd (by decide) (by decide)
    refine ⟨rfl, ⟨c1.1, c1.2.2.1, c2.2.2.1⟩, ?_⟩
    obtain ⟨p, c, rfl, _, _⟩ := A.x.ex
    refine (epush_no be B ev D l p c W.drew Pd.e (by omega) (by omega)).mono ?_
    rintro e W2 ⟨rfl, rfl⟩
    exact ⟨rfl, ⟨c1.1, c1.2.2.1, c2.2.2.1⟩, Q.step kd (by decide) (by decide) (by decide) ⟨_, _, _, _, _, _, _, _, _, _, _, _, Pd⟩⟩
/-- Pop of the data stack, on both sides. -/
theorem kind3 (A : AR B w0 v u l m) (Q : QS lo hi B bp n bo gc cc gk ck k a b v u l m w0 W) (P : PX lo hi B W bp bd br be bq gv gr ev qv vs ws D R n) :
    ∃ F : Int, Calls Try.prog 11 #[.pointer (some ⟨bd, 0, none⟩)] W.drew fun e W1 => e = .returned (.int .u16 F) ∧ (W1.cell? ⟨bp, 0, none⟩ = some (.pointer (some ⟨bd, 0, none⟩)) ∧ W1.cell? ⟨bp, 2, none⟩ = some (.pointer (some ⟨be, 0, none⟩))) ∧
      Calls Try.prog 36 #[.pointer (some ⟨be, 0, none⟩)] W1 fun e W2 => e = .returned (.int .u16 F) ∧ (W2.cell? ⟨bp, 0, none⟩ = some (.pointer (some ⟨bd, 0, none⟩)) ∧ W2.cell? ⟨bp, 2, none⟩ = some (.pointer (some ⟨be, 0, none⟩))) ∧ QS lo hi B bp n bo gc cc gk ck k a b v u l m w0 W2 := by
  have kd : KT (fun t => t = 60 ∨ t = 63) B W W.drew := (KT.refl _ _ _).drew
  have Pd := P.touch (W' := W.drew) fun _ _ _ => rfl
  rcases List.eq_nil_or_concat D with rfl | ⟨T, x, hT⟩
  · refine ⟨0, (dpop_empty bd W.drew Pd.d).mono ?_⟩
    rintro e W1 ⟨rfl, rfl⟩
    obtain ⟨c1, c2⟩ := cs_at P Q kd (by decide) (by decide)
    refine ⟨rfl, ⟨c1.1, c1.2.2.1⟩, (epop_empty be B ev W.drew Pd.e).mono ?_⟩
    rintro e W2 ⟨rfl, rfl⟩
    exact ⟨rfl, ⟨c1.1, c1.2.2.1⟩, Q.step kd (by decide) (by decide) (by decide) ⟨_, _, _, _, _, _, _, _, _, _, _, _, Pd⟩⟩
  · have hD : D = T ++ [x] := by rw [hT]; simp
    subst hD
    clear hT
    refine ⟨x, (dpop bd T x W.drew Pd.d).mono ?_⟩
    rintro e W1 ⟨rfl, d1, t1⟩
    have k0 : KT (fun t => t = 60) B W W1 := (KT.refl _ _ _).drew.trans (KT.at t1 Pd.d.1 rfl P.hbd)
    have k1 : KT (fun t => t = 60 ∨ t = 63) B W W1 := k0.mono fun t e => .inl e
    obtain ⟨c1, c2⟩ := cs_at P Q k1 (by decide) (by decide)
    refine ⟨rfl, ⟨c1.1, c1.2.2.1⟩, (epop be B ev T x W1 (P.e.kt k0 (by decide) (by decide))).mono ?_⟩
    rintro e W2 ⟨rfl, ⟨ev', E2, nw⟩, k2⟩
    have k12 : KT (fun t => t = 60 ∨ t = 63) B W W2 := k1.trans (k2.mono fun t e => .inr e)
    obtain ⟨c1, c2⟩ := cs_at P Q k12 (by decide) (by decide)
    exact ⟨rfl, ⟨c1.1, c1.2.2.1⟩, Q.step k12 (by decide) (by decide) (by decide) (PX.pe (P.upd k12 (by decide) (by decide) (by decide) (by decide) (by decide) ⟨k2.typ _ _ _ _ d1.1 (by decide), d1.2⟩ ⟨k12.typ _ _ _ _ P.r.1 (by decide), P.r.2⟩ E2 (nw_av nw P.ae (Nat.le_trans Q.hs k1.bel.size)) (P.q.kt k12 (by decide) (by decide)) P.aq))⟩
/-- Push on the return stack, on both sides. -/
theorem kind5 (A : AR B w0 v u l m) (Q : QS lo hi B bp n bo gc cc gk ck k a b v u l m w0 W) (P : PX lo hi B W bp bd br be bq gv gr ev qv vs ws D R n) :
    ∃ F : Int, Calls Try.prog 17 #[.pointer (some ⟨br, 0, none⟩), .slice (some ⟨gk, 0, none⟩) m.length ck] W.drew fun e W1 => e = .returned (.int .i64 F) ∧ (W1.cell? ⟨bp, 1, none⟩ = some (.pointer (some ⟨br, 0, none⟩)) ∧ W1.cell? ⟨bp, 3, none⟩ = some (.pointer (some ⟨bq, 0, none⟩)) ∧ W1.cell? ⟨bo, 4, none⟩ = some u) ∧
      Calls Try.prog 37 #[.pointer (some ⟨bq, 0, none⟩), u] W1 fun e W2 => e = .returned (.int .i64 F) ∧ (W2.cell? ⟨bp, 1, none⟩ = some (.pointer (some ⟨br, 0, none⟩)) ∧ W2.cell? ⟨bp, 3, none⟩ = some (.pointer (some ⟨bq, 0, none⟩)) ∧ W2.cell? ⟨bo, 4, none⟩ = some u) ∧ QS lo hi B bp n bo gc cc gk ck k a b v u l m w0 W2 := by
  have hm := A.hm
  have kd : KT (fun t => t = 50 ∨ t = 66) B W W.drew := (KT.refl _ _ _).drew
  have Pd := P.touch (W' := W.drew) fun _ _ _ => rfl
  by_cases hf : R.length + m.length ≤ 128
  · refine ⟨0, (rpush_yes br R m (some ⟨gk, 0, none⟩) ck W.drew Pd.r (Q.k.kt kd (by decide)).lsl hf).mono ?_⟩
    rintro e W1 ⟨rfl, d1, t1⟩
    have k0 : KT (fun t => t = 50) B W W1 := (KT.refl _ _ _).drew.trans (KT.at t1 Pd.r.1 rfl P.hbr)
    have k1 : KT (fun t => t = 50 ∨ t = 66) B W W1 := k0.mono fun t e => .inl e
    obtain ⟨c1, c2⟩ := cs_at P Q k1 (by decide) (by decide)
    refine ⟨rfl, ⟨c1.2.1, c1.2.2.2, c2.2.2.2⟩, ?_⟩
    refine (qpush_yes bq B qv R m u W1 (P.q.kt k0 (by decide) (by decide)) (A.of (Q.bel.trans k1.bel)).2 hf).mono ?_
    rintro e W2 ⟨rfl, ⟨qv', E2, nw⟩, k2⟩
    have k12 : KT (fun t => t = 50 ∨ t = 66) B W W2 := k1.trans (k2.mono fun t e => .inr e)
    obtain ⟨c1, c2⟩ := cs_at P Q k12 (by decide) (by decide)
    exact ⟨rfl, ⟨c1.2.1, c1.2.2.2, c2.2.2.2⟩, Q.step k12 (by decide) (by decide) (by decide) (PX.pe (P.upd k12 (by decide) (by decide) (by decide) (by decide) (by decide) ⟨k12.typ _ _ _ _ P.d.1 (by decide), P.d.2⟩ ⟨k2.typ _ _ _ _ d1.1 (by decide), d1.2⟩ (P.e.kt k12 (by decide) (by decide)) P.ae E2 (nw_av nw P.aq (Nat.le_trans Q.hs k1.bel.size))))⟩
  · refine ⟨4, (rpush_no br R m (some ⟨gk, 0, none⟩) ck W.drew Pd.r (by omega) (by omega)).mono ?_⟩
    rintro e W1 ⟨rfl, rfl⟩
    obtain ⟨c1, c2⟩ := cs_at P Q kd (by decide) (by decide)
    refine ⟨rfl, ⟨c1.2.1, c1.2.2.2, c2.2.2.2⟩, ?_⟩
    obtain ⟨p, c, rfl, _, _⟩ := A.y.ex
    refine (qpush_no bq B qv R m p c W.drew Pd.q (by omega) (by omega)).mono ?_
    rintro e W2 ⟨rfl, rfl⟩
    exact ⟨rfl, ⟨c1.2.1, c1.2.2.2, c2.2.2.2⟩, Q.step kd (by decide) (by decide) (by decide) ⟨_, _, _, _, _, _, _, _, _, _, _, _, Pd⟩⟩
/-- What both sides of a Pop of the return stack say. -/
theorem kind6 (A : AR B w0 v u l m) (Q : QS lo hi B bp n bo gc cc gk ck k a b v u l m w0 W) (P : PX lo hi B W bp bd br be bq gv gr ev qv vs ws D R n) :
    ∃ X F : Int, Calls Try.prog 14 #[.pointer (some ⟨br, 0, none⟩), .int .i64 a] W.drew fun e W1 => e = .returned (.tuple #[.int .u16 X, .int .i64 F]) ∧ (W1.cell? ⟨bp, 1, none⟩ = some (.pointer (some ⟨br, 0, none⟩)) ∧ W1.cell? ⟨bo, 1, none⟩ = some (.int .i64 a)) ∧ (W1.drew.cell? ⟨bp, 3, none⟩ = some (.pointer (some ⟨bq, 0, none⟩)) ∧ W1.drew.cell? ⟨bo, 1, none⟩ = some (.int .i64 a)) ∧
      Calls Try.prog 38 #[.pointer (some ⟨bq, 0, none⟩), .int .i64 a] W1.drew fun e W2 => e = .returned (.tuple #[.int .u16 X, .int .i64 F]) ∧ (W2.cell? ⟨bp, 3, none⟩ = some (.pointer (some ⟨bq, 0, none⟩)) ∧ W2.cell? ⟨bo, 1, none⟩ = some (.int .i64 a)) ∧ QS lo hi B bp n bo gc cc gk ck k a b v u l m w0 W2 := by
  have kd : KT (fun t => t = 50 ∨ t = 66) B W W.drew := (KT.refl _ _ _).drew
  have Pd := P.touch (W' := W.drew) fun _ _ _ => rfl
  have hB : B ≤ W.heap.size := Nat.le_trans Q.lb (Nat.le_trans Q.bo1 (Nat.le_of_lt (lt_of Q.o)))
  have fin : ∀ W1, KT (fun t => t = 50 ∨ t = 66) B W W1 → (W1.cell? ⟨bp, 1, none⟩ = some (.pointer (some ⟨br, 0, none⟩)) ∧ W1.cell? ⟨bo, 1, none⟩ = some (.int .i64 a)) ∧ (W1.drew.cell? ⟨bp, 3, none⟩ = some (.pointer (some ⟨bq, 0, none⟩)) ∧ W1.drew.cell? ⟨bo, 1, none⟩ = some (.int .i64 a)) := fun W1 k1 => by
    obtain ⟨c1, c2⟩ := cs_at P Q k1 (by decide) (by decide)
    exact ⟨⟨c1.2.1, c2.1⟩, ⟨c1.2.2.2, c2.1⟩⟩
  have fin2 : ∀ W2, KT (fun t => t = 50 ∨ t = 66) B W W2 → (W2.cell? ⟨bp, 3, none⟩ = some (.pointer (some ⟨bq, 0, none⟩)) ∧ W2.cell? ⟨bo, 1, none⟩ = some (.int .i64 a)) := fun W1 k1 => by
    obtain ⟨c1, c2⟩ := cs_at P Q k1 (by decide) (by decide)
    exact ⟨c1.2.2.2, c2.1⟩
  rcases List.eq_nil_or_concat R with rfl | ⟨T, ⟨k0, x0⟩, hT⟩
  · refine ⟨0, 3, (rpop_empty br a W.drew Pd.r).mono ?_⟩
    rintro e W1 ⟨rfl, rfl⟩
    obtain ⟨f1, f2⟩ := fin _ kd
    refine ⟨rfl, f1, f2, (qpop_empty bq B qv a W.drew.drew (Pd.q.kt (S := fun _ => False) (B0 := B) (KT.refl _ _ _).drew (by simp) (by simp))).mono ?_⟩
    rintro e W2 ⟨rfl, rfl⟩
    exact ⟨rfl, fin2 _ kd.drew, Q.step kd.drew (by decide) (by decide) (by decide) ⟨_, _, _, _, _, _, _, _, _, _, _, _, P.touch fun _ _ _ => rfl⟩⟩
  · have hR : R = T ++ [(k0, x0)] := by rw [hT]; simp
    subst hR
    clear hT
    by_cases hk : k0 = a
    · subst hk
      refine ⟨x0, 0, (rpop_ok br T k0 x0 W.drew Pd.r).mono ?_⟩
      rintro e W1 ⟨rfl, d1, t1⟩
      have kk0 : KT (fun t => t = 50) B W W1 := (KT.refl _ _ _).drew.trans (KT.at t1 Pd.r.1 rfl P.hbr)
      have k1 : KT (fun t => t = 50 ∨ t = 66) B W W1 := kk0.mono fun t e => .inl e
      obtain ⟨f1, f2⟩ := fin _ k1
      refine ⟨rfl, f1, f2, (qpop_ok bq B qv T k0 x0 W1.drew (P.q.kt kk0.drew (by decide) (by decide))).mono ?_⟩
      rintro e W2 ⟨rfl, ⟨qv', E2, nw⟩, k2⟩
      have k12 : KT (fun t => t = 50 ∨ t = 66) B W W2 := k1.drew.trans (k2.mono fun t e => .inr e)
      exact ⟨rfl, fin2 _ k12, Q.step k12 (by decide) (by decide) (by decide) (PX.pe (P.upd k12 (by decide) (by decide) (by decide) (by decide) (by decide) ⟨k12.typ _ _ _ _ P.d.1 (by decide), P.d.2⟩ ⟨k2.typ _ _ _ _ d1.1 (by decide), d1.2⟩ (P.e.kt k12 (by decide) (by decide)) P.ae E2 (nw_av nw P.aq (Nat.le_trans Q.hs k1.bel.size))))⟩
    · refine ⟨0, 5, (rpop_kind br T k0 x0 a hk W.drew Pd.r).mono ?_⟩
      rintro e W1 ⟨rfl, q, rfl⟩
      have k1 : KT (fun t => t = 50 ∨ t = 66) B W (W.drew.drewN q) := ⟨⟨rfl, rfl, rfl, Nat.le_refl _, fun _ _ => rfl⟩, fun _ _ _ _ e _ => e⟩
      obtain ⟨f1, f2⟩ := fin _ k1
      have Pq := Pd.touch (W' := (W.drew.drewN q).drew) fun _ _ _ => rfl
      refine ⟨rfl, f1, f2, (qpop_kind bq B qv T k0 x0 a hk _ Pq.q).mono ?_⟩
      rintro e W2 ⟨rfl, b2⟩
      have k12 : KT (fun t => t = 50 ∨ t = 66) B W W2 := k1.drew.trans (KT.of b2 hB)
      exact ⟨rfl, fin2 _ k12, Q.step k12 (by decide) (by decide) (by decide) ⟨_, _, _, _, _, _, _, _, _, _, _, _, Pq.below b2⟩⟩
/-- What both sides of an At say. -/
theorem kind7 (A : AR B w0 v u l m) (Q : QS lo hi B bp n bo gc cc gk ck k a b v u l m w0 W) (P : PX lo hi B W bp bd br be bq gv gr ev qv vs ws D R n) :
    ∃ X F : Int, Calls Try.prog 15 #[.pointer (some ⟨br, 0, none⟩), .int .i64 a, .int .i64 b] W.drew fun e W1 => e = .returned (.tuple #[.int .u16 X, .int .i64 F]) ∧ (W1.cell? ⟨bp, 1, none⟩ = some (.pointer (some ⟨br, 0, none⟩)) ∧ W1.cell? ⟨bo, 1, none⟩ = some (.int .i64 a) ∧ W1.cell? ⟨bo, 2, none⟩ = some (.int .i64 b)) ∧ (W1.drew.cell? ⟨bp, 3, none⟩ = some (.pointer (some ⟨bq, 0, none⟩)) ∧ W1.drew.cell? ⟨bo, 1, none⟩ = some (.int .i64 a) ∧ W1.drew.cell? ⟨bo, 2, none⟩ = some (.int .i64 b)) ∧
      Calls Try.prog 39 #[.pointer (some ⟨bq, 0, none⟩), .int .i64 a, .int .i64 b] W1.drew fun e W2 => e = .returned (.tuple #[.int .u16 X, .int .i64 F]) ∧ (W2.cell? ⟨bp, 3, none⟩ = some (.pointer (some ⟨bq, 0, none⟩)) ∧ W2.cell? ⟨bo, 1, none⟩ = some (.int .i64 a) ∧ W2.cell? ⟨bo, 2, none⟩ = some (.int .i64 b)) ∧ QS lo hi B bp n bo gc cc gk ck k a b v u l m w0 W2 := by
  have hB : B ≤ W.heap.size := Nat.le_trans Q.lb (Nat.le_trans Q.bo1 (Nat.le_of_lt (lt_of Q.o)))
  have Pd := P.touch (W' := W.drew) fun _ _ _ => rfl
  have kq : ∀ q, KT (fun _ => False) B W (W.drew.drewN q) := fun q => ⟨⟨rfl, rfl, rfl, Nat.le_refl _, fun _ _ => rfl⟩, fun _ _ _ _ e _ => e⟩
  have fin : ∀ W1, KT (fun _ => False) B W W1 → (W1.cell? ⟨bp, 1, none⟩ = some (.pointer (some ⟨br, 0, none⟩)) ∧ W1.cell? ⟨bo, 1, none⟩ = some (.int .i64 a) ∧ W1.cell? ⟨bo, 2, none⟩ = some (.int .i64 b)) ∧ (W1.drew.cell? ⟨bp, 3, none⟩ = some (.pointer (some ⟨bq, 0, none⟩)) ∧ W1.drew.cell? ⟨bo, 1, none⟩ = some (.int .i64 a) ∧ W1.drew.cell? ⟨bo, 2, none⟩ = some (.int .i64 b)) := fun W1 k1 => by
    obtain ⟨c1, c2⟩ := cs_at P Q k1 (by simp) (by simp)
    exact ⟨⟨c1.2.1, c2.1, c2.2.1⟩, ⟨c1.2.2.2, c2.1, c2.2.1⟩⟩
  have fin2 : ∀ W2, KT (fun _ => False) B W W2 → (W2.cell? ⟨bp, 3, none⟩ = some (.pointer (some ⟨bq, 0, none⟩)) ∧ W2.cell? ⟨bo, 1, none⟩ = some (.int .i64 a) ∧ W2.cell? ⟨bo, 2, none⟩ = some (.int .i64 b)) ∧ QS lo hi B bp n bo gc cc gk ck k a b v u l m w0 W2 := fun W1 k1 => by
    obtain ⟨c1, c2⟩ := cs_at P Q k1 (by simp) (by simp)
    exact ⟨⟨c1.2.2.2, c2.1, c2.2.1⟩, Q.step k1 (by simp) (by simp) (by simp) (PX.pe (P.upd k1 (by simp) (by simp) (by simp) (by simp) (by simp) ⟨k1.typ _ _ _ _ P.d.1 (by simp), P.d.2⟩ ⟨k1.typ _ _ _ _ P.r.1 (by simp), P.r.2⟩ (P.e.kt k1 (by simp) (by simp)) P.ae (P.q.kt k1 (by simp) (by simp)) P.aq))⟩
  by_cases ha : a < 0 ∨ (R.length : Int) ≤ a
  · refine ⟨0, 3, (rat_under br R a b ha W.drew Pd.r).mono ?_⟩
    rintro e W1 ⟨rfl, rfl⟩
    obtain ⟨f1, f2⟩ := fin _ (kq 0)
    refine ⟨rfl, f1, f2, (qat_under bq B qv R a b ha W.drew.drew (Pd.q.kt (S := fun _ => False) (B0 := B) (KT.refl _ _ _).drew (by simp) (by simp))).mono ?_⟩
    rintro e W2 ⟨rfl, rfl⟩
    exact ⟨rfl, fin2 _ (kq 0).drew⟩
  · obtain ⟨N, rfl⟩ : ∃ N : Nat, a = N := ⟨a.toNat, by omega⟩
    obtain ⟨i, hi'⟩ : ∃ i, i + N + 1 = R.length := ⟨R.length - N - 1, by omega⟩
    have hr : R[i]? = some R[i] := List.getElem?_eq_getElem (by omega)
    generalize hx : R[i]'(by omega) = t at hr
    obtain ⟨k0, x0⟩ := t
    by_cases hk : k0 = b
    · subst hk
      refine ⟨x0, 0, (rat_ok br R i N hi' k0 x0 hr W.drew Pd.r).mono ?_⟩
      rintro e W1 ⟨rfl, q, rfl⟩
      obtain ⟨f1, f2⟩ := fin _ (kq q)
      have Pq := Pd.touch (W' := (W.drew.drewN q).drew) fun _ _ _ => rfl
      have := qat_in bq B qv R i N hi' k0 x0 hr k0 _ Pq.q
      rw [if_pos rfl] at this
      refine ⟨rfl, f1, f2, this.mono ?_⟩
      rintro e W2 ⟨rfl, b2⟩
      exact ⟨rfl, fin2 _ ((kq q).drew.trans (KT.of b2 hB))⟩
    · refine ⟨0, 5, (rat_kind br R i N hi' k0 x0 hr b hk W.drew Pd.r).mono ?_⟩
      rintro e W1 ⟨rfl, q, rfl⟩
      obtain ⟨f1, f2⟩ := fin _ (kq q)
      have Pq := Pd.touch (W' := (W.drew.drewN q).drew) fun _ _ _ => rfl
      have := qat_in bq B qv R i N hi' k0 x0 hr b _ Pq.q
      rw [if_neg hk] at this
      refine ⟨rfl, f1, f2, this.mono ?_⟩
      rintro e W2 ⟨rfl, b2⟩
      exact ⟨rfl, fin2 _ ((kq q).drew.trans (KT.of b2 hB))⟩
/-- Set, on both sides. -/
theorem kind8 (A : AR B w0 v u l m) (Q : QS lo hi B bp n bo gc cc gk ck k a b v u l m w0 W) (P : PX lo hi B W bp bd br be bq gv gr ev qv vs ws D R n) (x : Int) :
    Calls Try.prog 13 #[.pointer (some ⟨br, 0, none⟩), .int .u16 x] W fun e W1 => e = .returned (.tuple #[]) ∧ W1.cell? ⟨bp, 3, none⟩ = some (.pointer (some ⟨bq, 0, none⟩)) ∧
      Calls Try.prog 40 #[.pointer (some ⟨bq, 0, none⟩), .int .u16 x] W1 fun e W2 => e = .returned (.tuple #[]) ∧ QS lo hi B bp n bo gc cc gk ck k a b v u l m w0 W2 := by
  rcases List.eq_nil_or_concat R with rfl | ⟨T, ⟨k0, x0⟩, hT⟩
  · refine (rset_none br x W P.r).mono ?_
    rintro e W1 ⟨rfl, rfl⟩
    refine ⟨rfl, (cs_at (S := fun _ => False) (B' := B) P Q (KT.refl _ _ _) (by simp) (by simp)).1.2.2.2, (qset_none bq B qv x _ P.q).mono ?_⟩
    rintro e W2 ⟨rfl, rfl⟩
    exact ⟨rfl, Q⟩
  · have hR : R = T ++ [(k0, x0)] := by rw [hT]; simp
    subst hR
    clear hT
    refine (rset br T k0 x0 x W P.r).mono ?_
    rintro e W1 ⟨rfl, d1, t1⟩
    have kk0 : KT (fun t => t = 50) B W W1 := KT.at t1 P.r.1 rfl P.hbr
    have k1 : KT (fun t => t = 50 ∨ t = 66) B W W1 := kk0.mono fun t e => .inl e
    refine ⟨rfl, (cs_at P Q k1 (by decide) (by decide)).1.2.2.2, (qset bq B qv T k0 x0 x W1 (P.q.kt kk0 (by decide) (by decide))).mono ?_⟩
    rintro e W2 ⟨rfl, ⟨qv', E2, nw⟩, k2⟩
    have k12 : KT (fun t => t = 50 ∨ t = 66) B W W2 := k1.trans (k2.mono fun t e => .inr e)
    exact ⟨rfl, Q.step k12 (by decide) (by decide) (by decide) (PX.pe (P.upd k12 (by decide) (by decide) (by decide) (by decide) (by decide) ⟨k12.typ _ _ _ _ P.d.1 (by decide), P.d.2⟩ ⟨k2.typ _ _ _ _ d1.1 (by decide), d1.2⟩ (P.e.kt k12 (by decide) (by decide)) P.ae E2 (nw_av nw P.aq (Nat.le_trans Q.hs k1.bel.size))))⟩
/-- Both are made anew out of their own cells. -/
theorem kind11 (Q : QS lo hi B bp n bo gc cc gk ck k a b v u l m w0 W) (P : PX lo hi B W bp bd br be bq gv gr ev qv vs ws D R n) :
    Calls Try.prog 16 #[.pointer (some ⟨bd, 0, none⟩)] W.drew fun e W1 => ∃ p c, e = .returned (.slice p D.length c) ∧ W1.cell? ⟨bp, 1, none⟩ = some (.pointer (some ⟨br, 0, none⟩)) ∧
      Calls Try.prog 19 #[.pointer (some ⟨br, 0, none⟩)] W1 fun e W2 => ∃ p' c', e = .returned (.slice p' R.length c') ∧
        Calls Try.prog 41 #[.pointer (some ⟨bp, 0, none⟩), .slice p D.length c, .slice p' R.length c'] W2 fun e W3 => e = .returned (.bool true) ∧ QS lo hi B bp n bo gc cc gk ck k a b v u l m w0 W3 := by
  have hB : B ≤ W.heap.size := Nat.le_trans Q.lb (Nat.le_trans Q.bo1 (Nat.le_of_lt (lt_of Q.o)))
  have Pd := P.touch (W' := W.drew) fun _ _ _ => rfl
  have hd : Below W.heap.size W W.drew := (Below.refl _ _).drew
  refine (dcells bd D W.drew Pd.d).mono ?_
  rintro e W1 ⟨v1, rfl, r1, b1⟩
  obtain ⟨p, c, rfl⟩ := ex_slice r1
  have hb1 : Below W.heap.size W W1 := hd.trans b1
  have P1 := P.below hb1
  refine ⟨p, c, rfl, cell_of W1 bp 1 _ 70 _ P1.blk rfl, (rcells br R W1 P1.r).mono ?_⟩
  rintro e W2 ⟨v2, rfl, r2, b2⟩
  obtain ⟨p', c', rfl⟩ := ex_slice r2
  have hb2 : Below W.heap.size W W2 := hb1.trans (b2.mono hb1.size)
  have P2 := P1.below b2
  have r1' : RowU W2 W.drew.heap.size (.slice p D.length c) D := own_kept r1 fun y _ hy => b2.block y hy
  have Q2 := Q.step (S := fun _ => False) (KT.of hb2 hB) (by simp) (by simp) (by simp) (PX.pe P2)
  have hdl := P.e.len
  have hrl := P.q.len
  refine ⟨p', c', rfl, (made_any _ _ D R (by unfold room; omega) (by unfold room; omega) W2 P2 (fun W' h => own_sl hU (own_kept r1' fun g e hg => h g hg (own_ne r1' P2.blk (by decide) g e))) (fun W' h => own_sl hK (own_kept r2 fun g e hg => h g hg (own_ne r2 P2.blk (by decide) g e))) Q2.hs).mono ?_⟩
  rintro e W3 ⟨rfl, p3, k3⟩
  exact ⟨rfl, Q2.step k3 (by decide) (by decide) (by decide) p3⟩
end
/-- What plays holds while it writes its copies over. -/
structure LP (lo hi B bp n gc cc gk ck : Nat) (l : List Int) (m : List (Int × Int)) (w0 W : World) : Prop where
  p : PE lo hi B W bp n
  bel : Below B w0 W
  c : ∃ L : List Int, L.length = l.length + 2 ∧ RowU W lo (.slice (some ⟨gc, 0, none⟩) (l.length + 2) cc) L
  k : ∃ M : List (Int × Int), M.length = m.length + 2 ∧ RowK W lo (.slice (some ⟨gk, 0, none⟩) (m.length + 2) ck) M
  lb : B ≤ lo
  gh : gc < hi ∧ gk < hi
theorem PE.touch {lo hi B bp n : Nat} {W W' : World} (h : PE lo hi B W bp n) (k : ∀ i, i < W.heap.size → Av lo hi i → W'.heap[i]? = W.heap[i]?) : PE lo hi B W' bp n := by
  obtain ⟨_, _, _, _, _, _, _, _, _, _, _, _, P⟩ := h
  exact PX.pe (P.touch k)
theorem LP.setC {lo hi B bp n gc cc gk ck : Nat} {l : List Int} {m : List (Int × Int)} {w0 W : World} (h : LP lo hi B bp n gc cc gk ck l m w0 W) (i : Nat) (hi' : i < l.length) (x : Int) :
    (∃ y, W.cell? ⟨gc, i, none⟩ = some (.int .u16 y)) ∧ W.frozen? ⟨gc, i, none⟩ = false ∧ LP lo hi B bp n gc cc gk ck l m w0 (W.setCell ⟨gc, i, none⟩ (.int .u16 x)) := by
  obtain ⟨L, hL, r⟩ := h.c
  obtain ⟨M, hM, rk⟩ := h.k
  have r' := r
  rw [← hL] at r'
  obtain ⟨cl, hcl⟩ := own_at r'
  have hg := (r'.lt gc rfl).1
  have hcell : ∃ y, W.cell? ⟨gc, i, none⟩ = some (.int .u16 y) := by
    obtain ⟨b, o, e1, e2⟩ := r'.ls.sl.u i L[i] (List.getElem?_eq_getElem (by omega))
    simp only [Option.some.injEq, Addr.mk.injEq] at e1
    obtain ⟨rfl, rfl, _⟩ := e1
    rw [Nat.zero_add] at e2
    exact ⟨_, e2⟩
  have hlb := h.lb
  have hgh := h.gh
  refine ⟨hcell, frozen_of W gc i _ 32 hcl, h.p.touch fun j _ ha => setCell_other _ _ _ _ _ (by rintro rfl; rcases ha with c | c <;> omega), h.bel.setCell (p := ⟨gc, i, none⟩) (by show B ≤ gc; omega) _, ⟨L.set i x, by rw [List.length_set]; exact hL, ?_⟩, ⟨M, hM, ?_⟩, h.lb, h.gh⟩
  · have := own_set r' i (by rw [en_len hU]; omega) (.int .u16 x)
    rw [enU_set] at this
    unfold RowU
    rw [List.length_set, ← hL]
    exact this
  · exact own_kept rk fun y e _ => setCell_other _ _ _ _ _ (own_ne rk hcl (by decide) y e)
theorem LP.setK {lo hi B bp n gc cc gk ck : Nat} {l : List Int} {m : List (Int × Int)} {w0 W : World} (h : LP lo hi B bp n gc cc gk ck l m w0 W) (i : Nat) (hi' : i < m.length) (a b : Int) :
    ((∃ y, W.cell? ⟨gk, i * 2, none⟩ = some (.int .i64 y)) ∧ ∃ y, W.cell? ⟨gk, i * 2 + 1, none⟩ = some (.int .u16 y)) ∧ (W.frozen? ⟨gk, i * 2, none⟩ = false ∧ W.frozen? ⟨gk, i * 2 + 1, none⟩ = false) ∧ LP lo hi B bp n gc cc gk ck l m w0 ((W.setCell ⟨gk, i * 2, none⟩ (.int .i64 a)).setCell ⟨gk, i * 2 + 1, none⟩ (.int .u16 b)) := by
  obtain ⟨L, hL, r⟩ := h.c
  obtain ⟨M, hM, rk⟩ := h.k
  have r' := rk
  rw [← hM] at r'
  obtain ⟨cl, hcl⟩ := own_at r'
  have hg := (r'.lt gk rfl).1
  obtain ⟨x1, x2⟩ := rowK_get r' i M[i] (List.getElem?_eq_getElem (by omega))
  have hlb := h.lb
  have hgh := h.gh
  refine ⟨⟨⟨_, x1⟩, _, x2⟩, ⟨frozen_of W gk _ _ 43 hcl, frozen_of W gk _ _ 43 hcl⟩, h.p.touch fun j _ ha => (setCell_other _ _ _ _ _ (by rintro rfl; rcases ha with c | c <;> omega)).trans (setCell_other _ _ _ _ _ (by rintro rfl; rcases ha with c | c <;> omega)),
    (h.bel.setCell (p := ⟨gk, i * 2, none⟩) (by show B ≤ gk; omega) _).setCell (p := ⟨gk, i * 2 + 1, none⟩) (by show B ≤ gk; omega) _, ⟨L, hL, ?_⟩, ⟨M.set i (a, b), by rw [List.length_set]; exact hM, ?_⟩, h.lb, h.gh⟩
  · exact own_kept r fun y e _ => (setCell_other _ _ _ _ _ (own_ne r hcl (by decide) y e)).trans (setCell_other _ _ _ _ _ (own_ne r hcl (by decide) y e))
  · have := own_set (own_set r' (i * 2) (by rw [en_len hK]; omega) (.int .i64 a)) (i * 2 + 1) (by rw [List.length_set, en_len hK]; omega) (.int .u16 b)
    rw [enK_set2 M i a b (by omega)] at this
    unfold RowK
    rw [List.length_set, ← hM]
    exact this
end Go.Proofs.Ytcnhfgoflfnocaa
