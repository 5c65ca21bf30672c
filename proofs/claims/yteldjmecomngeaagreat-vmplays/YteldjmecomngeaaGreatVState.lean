import Derived.Test.YteldjmecomngeaaGreatVLook
import Derived.Test.YteldjmecomngeaaGreatVTks
import Derived.Deep.RegionHeldLaw
namespace Go.Proofs.YteldjmecomngeaaGreat.V
open Go.RowKit
open Go.Proofs
set_option linter.unusedVariables false
set_option linter.unusedSimpArgs false
set_option maxHeartbeats 2000000
set_option maxRecDepth 100000
theorem step_store_row {ops : Array Oper} {o : Oper} {a : Act} {w : World} {K : Act -> World -> Prop} {Q : Exit -> Act -> World -> Prop} {E : Prop} (hgd : o.guard = none) (ty : TypeId) (x y : Operand) (ho : o.op = .store ty x y)
  (g : Nat) (cells : Array Value) (hx : a.eval x = .pointer (some ⟨g, 0, none⟩)) (hy : a.eval y = .agg cells)
  (t : TypeId) (old : Array Value) (hg : w.heap[g]? = some (.cells old t (0, 0))) (hi : (Tryz.prog.info? ty).map (·.size) = some cells.size)
  (hold : old.size = cells.size) (h1 : cells.all (·.oneCell') = true) (h : K (a.put o.dst undef) (w.setRow g cells)) :
  if Region.wanted o (yielded ops a.tmps) = true then Oper.wp Tryz.prog o a w K Q else E := by
 have hw : Region.wanted o (yielded ops a.tmps) = true := by simp [Region.wanted, hgd]
 rw [if_pos hw]
 exact wp_store_row ty x y ho g cells hx hy t old hg hi hold h1 h
def z5 : Array Value := #[.int .u16 0, .int .i64 0, .int .i64 0, .slice none 0 0, .slice none 0 0]
theorem size46 : (Tryz.prog.info? 46).map (·.size) = some 5 := by kernel_rfl
theorem MV.c5s {W : World} {g bd br bm : Nat} {kv : Value} {F : Nat -> Prop} {v : VS} (h : MV W g bd br bm kv F v) : W.cell? ⟨g, 0, none⟩ = some (.int .u16 v.pc) /\ W.cell? ⟨g, 1, none⟩ = some (.int .i64 v.st) /\ W.cell? ⟨g, 2, none⟩ = some (.int .i64 v.fa) /\ W.cell? ⟨g, 3, none⟩ = some (.pointer (some ⟨bd, 0, none⟩)) /\ W.cell? ⟨g, 4, none⟩ = some (.pointer (some ⟨br, 0, none⟩)) := ⟨h.c0, h.c1, h.c2, h.c3, h.c4⟩
theorem own_lt {w : World} {B : Nat} {e : TypeId} {size : Nat} {v : Value} {n : Nat} {xs : List Value} (h : w.ownsRow B e size v n xs) (k : Nat) (hk : v.ownBlock = some k) : B <= k /\ k < w.heap.size := by
 rcases h.2 with ⟨rfl, _⟩ | ⟨g, cap, cur, rfl, h2, h3, _⟩
 ·simp [Value.ownBlock] at hk
 ·simp [Value.ownBlock] at hk; subst hk; exact ⟨h2, S.lt_of h3⟩
theorem own_form {w : World} {B : Nat} {e : TypeId} {size : Nat} {v : Value} {n : Nat} {xs : List Value} (h : w.ownsRow B e size v n xs) : ∃ p cap, v = .slice p n cap := by
 rcases h.2 with ⟨h, e⟩ | ⟨g, cap, cur, h1, _⟩
 ·exact ⟨none, 0, by rw [h, e]⟩
 ·exact ⟨_, cap, h1⟩
theorem MV.row {W : World} {g bd br bm : Nat} {kv : Value} {F : Nat -> Prop} {v : VS} (h : MV W g bd br bm kv F v) (N : Nat) (hN : g ≠ N) (c : Array Value) : (W.setRow N c).cell? ⟨g, 0, none⟩ = some (.int .u16 v.pc) /\ (W.setRow N c).cell? ⟨g, 1, none⟩ = some (.int .i64 v.st) /\ (W.setRow N c).cell? ⟨g, 2, none⟩ = some (.int .i64 v.fa) /\ (W.setRow N c).cell? ⟨g, 3, none⟩ = some (.pointer (some ⟨bd, 0, none⟩)) /\ (W.setRow N c).cell? ⟨g, 4, none⟩ = some (.pointer (some ⟨br, 0, none⟩)) := by
 have e : (W.setRow N c).heap[g]? = W.heap[g]? := setRow_other W N g c hN
 exact ⟨(World.cell?_of_block (a := ⟨g, 0, none⟩) e).trans h.c0, (World.cell?_of_block (a := ⟨g, 1, none⟩) e).trans h.c1, (World.cell?_of_block (a := ⟨g, 2, none⟩) e).trans h.c2, (World.cell?_of_block (a := ⟨g, 3, none⟩) e).trans h.c3, (World.cell?_of_block (a := ⟨g, 4, none⟩) e).trans h.c4⟩
def StV (v : VS) (du ru : Value) : Value := .agg #[.int .u16 v.pc, .int .i64 v.st, .int .i64 v.fa, du, ru]
theorem state_any (g bd br bm : Nat) (kv : Value) (F : Nat -> Prop) (v : VS) (w : World) (h : MV w g bd br bm kv F v) :
  Calls Tryz.prog 14 #[.pointer (some ⟨g, 0, none⟩)] w fun e w' => ∃ p1 c1 p2 c2, e = .returned (StV v (.slice p1 v.D.length c1) (.slice p2 v.R.length c2)) /\ S.RowU w' w.heap.size (.slice p1 v.D.length c1) v.D /\ S.RowK w' w.heap.size (.slice p2 v.R.length c2) v.R /\ Below w.heap.size w w' := by
 have hz := heap_alloc_new w (.cells #[.int .u16 0, .int .i64 0, .int .i64 0, .slice none 0 0, .slice none 0 0] 46)
 have hb := P.bel_alloc w (.cells #[.int .u16 0, .int .i64 0, .int .i64 0, .slice none 0 0, .slice none 0 0] 46)
 have hM := h.below hb
 have hlt := h.lt
 generalize hW : w.alloc (.cells #[.int .u16 0, .int .i64 0, .int .i64 0, .slice none 0 0, .slice none 0 0] 46) = W at *
 have hb1 : Below w.heap.size w W.drew := ⟨hb.os, hb.tape, hb.output, hb.size, hb.block⟩
 have hM1 : MV W.drew g bd br bm kv F v := hM.below ⟨rfl, rfl, rfl, Nat.le_refl _, fun _ _ => rfl⟩
 have hz1 : W.drew.heap[w.heap.size]? = some (.cells z5 46 (0, 0)) := hz
 have s0 := hM1.c5s
 have k1 := S.dcells bd v.D W.drew hM1.ps.d
 have HB := S.hid hb1
 have HM := S.hid hM1
 have HZ := S.hid hz1
 have hs : w.heap.size <= W.drew.heap.size := hb1.size
 have HBs := S.hid (show w.heap.size < W.drew.heap.size /\ True from ⟨S.lt_of hz1, trivial⟩)
 clear h hb hM hz hb1 hM1 hz1
 go_enter Tryz.func14, Tryz.ntmps14
 go_wp2_with fail
 refine wp_region_held_drew (S := (fun w' => w'.cell? ⟨g, 0, none⟩ = some (.int .u16 v.pc) /\ w'.cell? ⟨g, 1, none⟩ = some (.int .i64 v.st) /\ w'.cell? ⟨g, 2, none⟩ = some (.int .i64 v.fa) /\ w'.cell? ⟨g, 3, none⟩ = some (.pointer (some ⟨bd, 0, none⟩)) /\ w'.cell? ⟨g, 4, none⟩ = some (.pointer (some ⟨br, 0, none⟩)))) (by kernel_rfl) s0 (fun hHeld => ?_)
 generalize hWd : W.drew = Wd at *
 refine V.wtk0 (is := [0, 1, 2, 3, 4, 5, 6, 7, 8, 9, 10, 11, 12, 13, 14, 15, 16, 17, 18, 19, 21, 22, 23, 24, 25]) ?_
 iterate 25
  refine V.wt (v := ?_) rfl (by kernel_rfl) (fun c a w h => h) (by rfl) ?_ hHeld ?_
  rotate_left
  ·(intro w hSw; (try dsimp only at hSw); go_simp; try with_reducible rfl)
  simp only [Act.put, List.setIfInBounds_toArray, List.set_cons_zero, List.set_cons_succ]
 refine V.wtkE ?_
 refine V.wrd 20 (by kernel_rfl) rfl fun K hK => ?_
 go_simp
 refine k1.mono ?_
 rintro e w1 ⟨u1, rfl, r1, b1⟩
 obtain ⟨p1, c1, rfl⟩ := own_form r1
 have hM1 := HM.out.below b1
 have s1 := hM1.c5s
 have k2 := S.rcells br v.R w1 hM1.ps.r
 have HB1 := S.hid (trB HB.out b1 hs)
 have HR1 := S.hid (show S.RowU w1 Wd.heap.size (.slice p1 v.D.length c1) v.D from r1)
 have HM1 := S.hid hM1
 have HZ1 := S.hid ((b1.block _ (S.lt_of HZ.out)).trans HZ.out)
 have hs1 : w.heap.size <= w1.heap.size := Nat.le_trans hs b1.size
 have hs1' := b1.size
 clear k1 r1 b1 hM1 s0
 refine hK.out _ _ s1 (fun hHeld => ?_)
 clear hK K
 try simp only [Act.put, List.setIfInBounds_toArray, List.set_cons_zero, List.set_cons_succ]
 refine V.wrd 26 (by kernel_rfl) rfl fun K hK => ?_
 go_simp
 refine k2.mono ?_
 rintro e w2 ⟨u2, rfl, r2, b2⟩
 obtain ⟨p2, c2, rfl⟩ := own_form r2
 have hM2 := HM1.out.below b2
 have s2 := hM2.c5s
 have HB2 := S.hid (trB HB1.out b2 hs1)
 have HR2 := S.hid (show S.RowK w2 w1.heap.size (.slice p2 v.R.length c2) v.R from r2)
 have HR1' := S.hid (show S.RowU w2 Wd.heap.size (.slice p1 v.D.length c1) v.D from S.own_kept HR1.out fun k _ hk => b2.block k hk)
 have hz2 := (b2.block _ (S.lt_of HZ1.out)).trans HZ1.out
 clear k2 r2 b2 s1 HR1 HZ1
 have s3 : (fun w' => w'.cell? ⟨g, 0, none⟩ = some (.int .u16 v.pc) /\ w'.cell? ⟨g, 1, none⟩ = some (.int .i64 v.st) /\ w'.cell? ⟨g, 2, none⟩ = some (.int .i64 v.fa) /\ w'.cell? ⟨g, 3, none⟩ = some (.pointer (some ⟨bd, 0, none⟩)) /\ w'.cell? ⟨g, 4, none⟩ = some (.pointer (some ⟨br, 0, none⟩))) (w2.setRow w.heap.size #[.int .u16 v.pc, .int .i64 v.st, .int .i64 v.fa, .slice p1 v.D.length c1, .slice p2 v.R.length c2]) := (hM2.row w.heap.size (Nat.ne_of_lt hlt) _)
 have HM2 := S.hid hM2
 clear hM2
 refine hK.out _ _ s2 (fun hHeld => ?_)
 clear hK K
 try simp only [Act.put, List.setIfInBounds_toArray, List.set_cons_zero, List.set_cons_succ]
 refine V.wrd 27 (by kernel_rfl) rfl fun K hK => ?_
 go_simp
 refine hK.out _ _ s2 (fun hHeld => ?_)
 clear hK K
 refine V.wrd 28 (by kernel_rfl) rfl fun K hK => ?_
 refine step_store_row rfl 46 (.tmp 2) (.tmp 33) rfl w.heap.size #[.int .u16 v.pc, .int .i64 v.st, .int .i64 v.fa, .slice p1 v.D.length c1, .slice p2 v.R.length c2] (by simp [Act.eval]) (by simp [Act.eval]) 46 z5 hz2 (by exact size46) (by rfl) (by simp [Value.oneCell']) ?_
 refine hK.out _ _ s3 (fun hHeld => ?_)
 clear hK K
 refine wpAnyH_done (by kernel_rfl) ?_ _
 have hfin := setRow_heap w2 w.heap.size _ #[.int .u16 v.pc, .int .i64 v.st, .int .i64 v.fa, .slice p1 v.D.length c1, .slice p2 v.R.length c2] _ _ hz2
 clear hHeld s2 s3
 simp only [Act.put, List.setIfInBounds_toArray, List.set_cons_zero, List.set_cons_succ]
 go_wp2
 refine bodyPost_ret (results_cell_row rfl _ _ w.heap.size 46 _ (0, 0) _ rfl hfin Tryz.underlying46 rfl size46) rfl ⟨p1, c1, p2, c2, rfl, ?_, ?_, P.Below.setRow HB2.out w.heap.size (Nat.le_refl _) _⟩
 ·exact S.own_mono (S.own_kept HR1'.out fun k e _ => setRow_other w2 w.heap.size k _ (by have := own_lt HR1'.out k e; have := HBs.out; omega)) hs
 ·exact S.own_mono (S.own_kept HR2.out fun k e _ => setRow_other w2 w.heap.size k _ (by have := own_lt HR2.out k e; have := HBs.out; omega)) hs1
set_option maxHeartbeats 2000000
set_option maxRecDepth 100000
theorem wk_tones (B : Int) : ∀ (k : Nat) (v : VS) (n s : Int), (wk k B v n s).v.m.tones.length <= v.m.tones.length + 3 * k
 | 0, v, n, s => by simp [wk]
 | k + 1, v, n, s => by
  have hd := doo_tones (look v).op (look v).x (cyc s v); have hc : (cyc s v).m.tones.length = v.m.tones.length := rfl; have ih := wk_tones B k (doo (look v).op (look v).x (cyc s v)).2 (n + 1) (s + P.rc (look v).op); unfold wk
  split
  ·split
   ·split
    ·simp only; omega
    ·split
     ·split
      ·simp only; omega
      ·omega
     ·show (cyc s v).m.tones.length <= _; omega
   ·show v.m.tones.length <= _; omega
  ·simp only; omega
theorem wk_r (B : Int) : ∀ (k : Nat) (v : VS) (n s : Int), s <= B -> n <= (wk k B v n s).steps /\ (wk k B v n s).steps - n <= (wk k B v n s).spent - s /\ (wk k B v n s).spent - s <= 4 * ((wk k B v n s).steps - n) /\ (wk k B v n s).spent <= B
 | 0, v, n, s, h => by simp [wk]; omega
 | k + 1, v, n, s, h => by
  have hr := rc_r (look v).op; unfold wk
  split
  ·split
   ·split
    ·simp only; omega
    ·rename_i q1 q2 q3
     have ih := wk_r B k (doo (look v).op (look v).x (cyc s v)).2 (n + 1) (s + P.rc (look v).op) (by omega)
     split
     ·split
      ·simp only; omega
      ·omega
     ·simp only; omega
   ·simp only; omega
  ·simp only; omega
def z7 : Array Value := #[.int .i64 0, .int .i64 0, .int .i64 0, .int .i64 0, .int .i64 0, .slice none 0 0, .slice none 0 0]
theorem size39 : (Tryz.prog.info? 39).map (·.size) = some 7 := by kernel_rfl
theorem MV.c3s {W : World} {g bd br bm : Nat} {kv : Value} {F : Nat -> Prop} {u : VS} (h : MV W g bd br bm kv F u) : W.cell? ⟨g, 1, none⟩ = some (.int .i64 u.st) /\ W.cell? ⟨g, 2, none⟩ = some (.int .i64 u.fa) /\ W.cell? ⟨g, 6, none⟩ = some (.pointer (some ⟨bm, 0, none⟩)) := ⟨h.c1, h.c2, h.c6⟩
theorem MV.row3 {W : World} {g bd br bm : Nat} {kv : Value} {F : Nat -> Prop} {u : VS} (h : MV W g bd br bm kv F u) (N : Nat) (hN : g ≠ N) (c : Array Value) : (W.setRow N c).cell? ⟨g, 1, none⟩ = some (.int .i64 u.st) /\ (W.setRow N c).cell? ⟨g, 2, none⟩ = some (.int .i64 u.fa) /\ (W.setRow N c).cell? ⟨g, 6, none⟩ = some (.pointer (some ⟨bm, 0, none⟩)) := by
 have e : (W.setRow N c).heap[g]? = W.heap[g]? := setRow_other W N g c hN
 exact ⟨(World.cell?_of_block (a := ⟨g, 1, none⟩) e).trans h.c1, (World.cell?_of_block (a := ⟨g, 2, none⟩) e).trans h.c2, (World.cell?_of_block (a := ⟨g, 6, none⟩) e).trans h.c6⟩
theorem MV.setRow {W : World} {g bd br bm : Nat} {kv : Value} {F : Nat -> Prop} {v : VS} (h : MV W g bd br bm kv F v) (N : Nat) (c : Array Value) (h1 : N ≠ g) (h2 : N ≠ bd) (h3 : N ≠ br) (h4 : ¬ F N) (h5 : ∀ k, kv.ownBlock = some k -> k ≠ N) : MV (W.setRow N c) g bd br bm kv F v := by
 have o : ∀ k, k ≠ N -> (W.setRow N c).heap[k]? = W.heap[k]? := fun k hk => setRow_other W N k c hk
 exact ⟨(o _ (Ne.symm h1)).trans h.blk, ⟨h.ps.d.kept (o _ (Ne.symm h2)), h.ps.r.kept (o _ (Ne.symm h3)), h.ps.m.kept fun k _ f => o k (by rintro rfl; exact h4 f), h.ps.dr, h.ps.fd, h.ps.fr⟩,
  sl_kept h.code fun k e _ => o k (h5 k e), h.clen, fun k e => by rw [setRow_size]; exact h.ck k e, h.cb, fun k e => by rw [setRow_size]; exact h.fb k e, h.vd, h.vr, h.fv, h.wf⟩
theorem MV.around {w W w2 w4 : World} {g bd br bm : Nat} {kv : Value} {F : Nat -> Prop} {v u : VS} (h0 : MV w g bd br bm kv F v) (hB : Below w.heap.size w W) (hs : w.heap.size < W.heap.size) (k : VD W w2 g bd br bm kv F u) (hD : Below w2.heap.size w2 w4) (c : Array Value) :
  MV (w4.setRow w.heap.size c) g bd br bm kv (M.gr F w w2) u /\ S.Tc (TV g bd br F) w (w4.setRow w.heap.size c) := by
 have a1 := k.t.size
 have a2 := hD.size
 have a3 := h0.lt
 have a4 := h0.lt_d
 have a5 := h0.lt_r
 have nf : ¬ F w.heap.size := fun f => by have := h0.fb _ f; omega
 have hM : MV (w4.setRow w.heap.size c) g bd br bm kv (M.gr F W w2) u := (k.s.below hD).setRow w.heap.size c (by omega) (by omega) (by omega) (by rintro (f | ⟨f, _⟩); exact nf f; omega) (fun i e => by have := h0.ck i e; omega)
 have n1 : ∀ i, i < w.heap.size -> ¬ F i -> ¬ M.gr F w w2 i := by rintro i hi hf (e | ⟨e, _⟩); exact hf e; omega
 refine ⟨hM.mono (fun i hi => ?_) ?_ (n1 _ a3 h0.fv) (n1 _ a4 h0.ps.fd) (n1 _ a5 h0.ps.fr) (fun i e => n1 i (h0.ck i e) (h0.cb i e).2.2.2), ⟨?_, ?_, ?_, ?_, fun i hi n => ?_⟩⟩
 ·rcases hi with hi | ⟨hi, hi'⟩
  ·exact .inl hi
  ·exact .inr ⟨by omega, hi'⟩
 ·rintro i (e | ⟨_, e⟩)
  ·have := h0.fb i e; rw [setRow_size]; omega
  ·rw [setRow_size]; omega
 ·exact hD.os.trans (k.t.os.trans hB.os)
 ·exact hD.tape.trans (k.t.tape.trans hB.tape)
 ·exact hD.output.trans (k.t.output.trans hB.output)
 ·rw [setRow_size]; omega
 ·rw [setRow_other w4 w.heap.size i c (by omega), hD.block i (by omega), k.t.block i (by omega) n, hB.block i hi]
structure VL (w w' : World) (lo g bd br bm : Nat) (kv : Value) (F : Nat -> Prop) (v : VS) : Prop where
 l0 : w.heap.size <= lo
 l1 : lo <= w'.heap.size
 s : MV w' g bd br bm kv (fun k => F k \/ (w.heap.size <= k /\ k < lo)) v
 t : S.Tc (TV g bd br F) w w'
theorem VL.vd {w w' : World} {lo g bd br bm : Nat} {kv : Value} {F : Nat -> Prop} {v u : VS} (h0 : MV w g bd br bm kv F v) (h : VL w w' lo g bd br bm kv F u) : VD w w' g bd br bm kv F u := by
 have l0 := h.l0
 have l1 := h.l1
 have ts := h.t.size
 have n1 : ∀ i, i < w.heap.size -> ¬ F i -> ¬ M.gr F w w' i := by rintro i hi hf (e | ⟨e, _⟩); exact hf e; omega
 refine ⟨h.s.mono (fun i hi => ?_) ?_ (n1 _ h0.lt h0.fv) (n1 _ h0.lt_d h0.ps.fd) (n1 _ h0.lt_r h0.ps.fr) (fun i e => n1 i (h0.ck i e) (h0.cb i e).2.2.2), h.t⟩
 ·rcases hi with hi | ⟨hi, hi'⟩
  ·exact .inl hi
  ·exact .inr ⟨hi, by omega⟩
 ·rintro i (e | ⟨_, e⟩)
  ·have := h0.fb i e; omega
  ·exact e
def FrL (w w' : World) (a b : Value) (x : List UInt8) (y : List (Int × Int × Int)) (g bd br bm : Nat) (kv : Value) (F : Nat -> Prop) (v : VS) : Prop := ∃ lo, M.Row w' lo a x /\ M.TRow w' lo b y /\ VL w w' lo g bd br bm kv F v
def OutV (r : WK) (B : Int) (a b : Value) : Value := .agg #[.int .i64 r.v.st, .int .i64 r.v.fa, .int .i64 r.steps, .int .i64 r.spent, .int .i64 (B - r.spent), a, b]
theorem frame_lo (x : UInt8) (B : Int) (hB0 : 4 <= B) (hB1 : B <= 16384) (g bd br bm : Nat) (kv : Value) (F : Nat -> Prop) (v : VS) (w : World) (h : MV w g bd br bm kv F v) :
  Calls Tryz.prog 13 #[.pointer (some ⟨g, 0, none⟩), .int .u8 (x.toNat : Int), .int .i64 B] w fun e w' => ∃ p1 c1 p2 c2, e = .returned (.tuple #[OutV (frame v (x.toNat : Int) B) B (.slice p1 (frame v (x.toNat : Int) B).v.m.scr.length c1) (.slice p2 (frame v (x.toNat : Int) B).v.m.tones.length c2), .int .i64 0]) /\ FrL w w' (.slice p1 (frame v (x.toNat : Int) B).v.m.scr.length c1) (.slice p2 (frame v (x.toNat : Int) B).v.m.tones.length c2) (frame v (x.toNat : Int) B).v.m.scr (frame v (x.toNat : Int) B).v.m.tones g bd br bm kv F (frame v (x.toNat : Int) B).v := by
 have hz := heap_alloc_new w (.cells #[.int .i64 0, .int .i64 0, .int .i64 0, .int .i64 0, .int .i64 0, .slice none 0 0, .slice none 0 0] 39)
 have hb := P.bel_alloc w (.cells #[.int .i64 0, .int .i64 0, .int .i64 0, .int .i64 0, .int .i64 0, .slice none 0 0, .slice none 0 0] 39)
 have hM := h.below hb
 have hlt := h.lt
 generalize hW : w.alloc (.cells #[.int .i64 0, .int .i64 0, .int .i64 0, .int .i64 0, .int .i64 0, .slice none 0 0, .slice none 0 0] 39) = W at *
 have c6 := hM.c6
 have k0 := M.begin_any bm x W hM.ps.m
 have b1 : decide (B < 4) = false := decide_eq_false (by omega)
 have b2 : decide (16384 < B) = false := decide_eq_false (by omega)
 obtain ⟨r, hr⟩ : ∃ r, r = frame v (x.toNat : Int) B := ⟨_, rfl⟩
 rw [<- hr]
 have HR := S.hid hr
 have H0 := S.hid h
 have HM := S.hid hM
 have HB := S.hid hb
 have HZ := S.hid hz
 have hs : w.heap.size <= W.heap.size := hb.size
 have hs' : w.heap.size < W.heap.size := S.lt_of hz
 clear h hb hM hz hr
 go_enter Tryz.func13, Tryz.ntmps13
 go_wp2_with fail
 refine k0.mono ?_
 rintro e w1 ⟨rfl, hd⟩
 have hV1 : VD W w1 g bd br bm kv F { v with m := M.bg v.m (x.toNat : Int) } := HM.out.goes (HM.out.ps.mem hd) HM.out.wf.d HM.out.wf.r
 have kw := work_any { v with m := M.bg v.m (x.toNat : Int) } B hB0 hB1 (by simp [M.bg]) g bd br bm kv _ w1 hV1.s
 have er : wk B.toNat B { v with m := M.bg v.m (x.toNat : Int) } 0 0 = r := by rw [HR.out]; rfl
 rw [er] at kw
 have HV1 := S.hid hV1
 have ht := wk_tones B B.toNat { v with m := M.bg v.m (x.toNat : Int) } 0 0
 have hr := wk_r B B.toNat { v with m := M.bg v.m (x.toNat : Int) } 0 0 (by omega)
 rw [er] at ht hr
 have ht : r.v.m.tones.length <= 1000000 := by simp only [M.bg, List.length_nil] at ht; omega
 obtain ⟨u, n, s⟩ := r
 simp only at kw ht hr
 have ws : IntKind.i64.wrap (B - s) = B - s := S.i64_id _ (by omega) (by omega)
 have ws' : wrap64 (B - s) = B - s := by simp [wrap64]; omega
 clear k0 hd hV1 c6 er hr
 go_wp2_with fail
 refine kw.mono ?_
 rintro e w2 ⟨rfl, hV2⟩
 have hV2 : VD W w2 g bd br bm kv F u := VD.trans HM.out HV1.out hV2
 have HV2 := S.hid hV2
 have hz2 := (hV2.other H0.out hs w.heap.size (Nat.le_refl _) (S.lt_of HZ.out)).trans HZ.out
 have HZ2 := S.hid hz2
 have s2 : w.heap.size < w2.drew.heap.size := Nat.lt_of_lt_of_le hs' hV2.t.size
 have hM2 : MV w2.drew g bd br bm kv (M.gr F W w2) u := hV2.s.below ⟨rfl, rfl, rfl, Nat.le_refl _, fun _ _ => rfl⟩
 have s0 := hM2.c3s
 have k1 := M.screen_any bm w2.drew hM2.ps.m
 have HM2 := S.hid hM2
 clear kw hV2 hz2 hM2 HV1
 go_wp2_with fail
 refine wp_region_held_drew (S := (fun w' => w'.cell? ⟨g, 1, none⟩ = some (.int .i64 u.st) /\ w'.cell? ⟨g, 2, none⟩ = some (.int .i64 u.fa) /\ w'.cell? ⟨g, 6, none⟩ = some (.pointer (some ⟨bm, 0, none⟩)))) (by kernel_rfl) s0 (fun hHeld => ?_)
 refine V.wtk0 (is := [0, 1, 2, 3, 4, 5, 6, 7, 8, 9, 10, 11, 12, 13, 14, 15, 16, 17, 18, 20, 21, 22, 23]) ?_
 iterate 23
  refine V.wt (v := ?_) rfl (by kernel_rfl) (fun c a w h => h) (by rfl) ?_ hHeld ?_
  rotate_left
  ·(intro w hSw; (try dsimp only at hSw); go_simp; try with_reducible rfl)
  simp only [Act.put, List.setIfInBounds_toArray, List.set_cons_zero, List.set_cons_succ]
 refine V.wtkE ?_
 refine V.wrd 19 (by kernel_rfl) rfl fun K hK => ?_
 go_simp
 refine k1.mono ?_
 rintro e w3 ⟨u1, rfl, r1, d1⟩
 obtain ⟨p1, c1, rfl⟩ := own_form r1
 have hM3 := HM2.out.below d1
 have s3 := hM3.c3s
 have k2 := M.tones_any bm w3 hM3.ps.m ht
 have HD3 := S.hid (show Below w2.drew.heap.size w2.drew w3 from d1)
 have HR1 := S.hid (show M.Row w3 w2.drew.heap.size (.slice p1 u.m.scr.length c1) u.m.scr from r1)
 have HM3 := S.hid hM3
 clear k1 r1 d1 hM3 s0
 refine hK.out _ _ s3 (fun hHeld => ?_)
 clear hK K
 try simp only [Act.put, List.setIfInBounds_toArray, List.set_cons_zero, List.set_cons_succ]
 refine V.wrd 24 (by kernel_rfl) rfl fun K hK => ?_
 go_simp
 refine k2.mono ?_
 rintro e w4 ⟨u2, rfl, r2, d2⟩
 obtain ⟨p2, c2, rfl⟩ := own_form r2
 have hM4 := HM3.out.below d2
 have s4 := hM4.c3s
 have HD4 := S.hid (show Below w2.drew.heap.size w2.drew w4 from trB HD3.out d2 HD3.out.size)
 have HR2 := S.hid (show M.TRow w4 w3.heap.size (.slice p2 u.m.tones.length c2) u.m.tones from r2)
 have HR1' := S.hid (show M.Row w4 w2.drew.heap.size (.slice p1 u.m.scr.length c1) u.m.scr from HR1.out.below d2)
 have hz4 : w4.heap[w.heap.size]? = some (.cells z7 39 (0, 0)) := (HD4.out.block _ s2).trans HZ2.out
 have s5 : (fun w' => w'.cell? ⟨g, 1, none⟩ = some (.int .i64 u.st) /\ w'.cell? ⟨g, 2, none⟩ = some (.int .i64 u.fa) /\ w'.cell? ⟨g, 6, none⟩ = some (.pointer (some ⟨bm, 0, none⟩))) (w4.setRow w.heap.size #[.int .i64 u.st, .int .i64 u.fa, .int .i64 n, .int .i64 s, .int .i64 (B - s), .slice p1 u.m.scr.length c1, .slice p2 u.m.tones.length c2]) := hM4.row3 w.heap.size (Nat.ne_of_lt hlt) _
 have HM4 := S.hid hM4
 clear k2 r2 d2 s3 HR1 HM3 hM4
 refine hK.out _ _ s4 (fun hHeld => ?_)
 clear hK K
 try simp only [Act.put, List.setIfInBounds_toArray, List.set_cons_zero, List.set_cons_succ]
 refine V.wrd 25 (by kernel_rfl) rfl fun K hK => ?_
 go_simp
 refine hK.out _ _ s4 (fun hHeld => ?_)
 clear hK K
 refine V.wrd 26 (by kernel_rfl) rfl fun K hK => ?_
 refine step_store_row rfl 39 (.tmp 6) (.tmp 57) rfl w.heap.size #[.int .i64 u.st, .int .i64 u.fa, .int .i64 n, .int .i64 s, .int .i64 (B - s), .slice p1 u.m.scr.length c1, .slice p2 u.m.tones.length c2] (by simp [Act.eval]) (by simp [Act.eval]) 39 z7 hz4 (by exact size39) (by rfl) (by simp [Value.oneCell']) ?_
 refine hK.out _ _ s5 (fun hHeld => ?_)
 clear hK K
 refine V.wrd 27 (by kernel_rfl) rfl fun K hK => ?_
 go_simp
 refine hK.out _ _ s5 (fun hHeld => ?_)
 clear hK K
 refine wpAnyH_done (by kernel_rfl) ?_ _
 have hfin := setRow_heap w4 w.heap.size _ #[.int .i64 u.st, .int .i64 u.fa, .int .i64 n, .int .i64 s, .int .i64 (B - s), .slice p1 u.m.scr.length c1, .slice p2 u.m.tones.length c2] _ _ hz4
 clear hHeld s4 s5
 try simp only [Act.put, List.setIfInBounds_toArray, List.set_cons_zero, List.set_cons_succ]
 go_wp2
 have hsz : w3.heap.size ≥ w2.drew.heap.size := HD3.out.size
 have hVA := MV.around H0.out HB.out hs' HV2.out ⟨HD4.out.os, HD4.out.tape, HD4.out.output, HD4.out.size, HD4.out.block⟩ #[.int .i64 u.st, .int .i64 u.fa, .int .i64 n, .int .i64 s, .int .i64 (B - s), .slice p1 u.m.scr.length c1, .slice p2 u.m.tones.length c2]
 have hVF : VL w (w4.setRow w.heap.size #[.int .i64 u.st, .int .i64 u.fa, .int .i64 n, .int .i64 s, .int .i64 (B - s), .slice p1 u.m.scr.length c1, .slice p2 u.m.tones.length c2]) w2.drew.heap.size g bd br bm kv F u := ⟨Nat.le_of_lt s2, by rw [setRow_size]; exact HD4.out.size, hVA.1, hVA.2⟩
 refine bodyPost_ret (v := .tuple #[OutV ⟨u, n, s⟩ B (.slice p1 u.m.scr.length c1) (.slice p2 u.m.tones.length c2), .int .i64 0]) ?_ rfl ⟨p1, c1, p2, c2, rfl, w2.drew.heap.size, ?_, ?_, hVF⟩
 ·rw [results_cell_tmp rfl]
  simp [asAddr, run_loadVar_row _ w.heap.size _ 39 _ _ _ hfin Tryz.underlying39 rfl size39, OutV]
 ·exact S.own_kept HR1'.out fun k e _ => setRow_other w4 w.heap.size k _ (by have := own_lt HR1'.out k e; omega)
 ·exact S.own_mono (S.own_kept HR2.out fun k e _ => setRow_other w4 w.heap.size k _ (by have := own_lt HR2.out k e; omega)) hsz
theorem frame_any (x : UInt8) (B : Int) (hB0 : 4 <= B) (hB1 : B <= 16384) (g bd br bm : Nat) (kv : Value) (F : Nat -> Prop) (v : VS) (w : World) (h : MV w g bd br bm kv F v) :
  Calls Tryz.prog 13 #[.pointer (some ⟨g, 0, none⟩), .int .u8 (x.toNat : Int), .int .i64 B] w fun e w' => ∃ p1 c1 p2 c2, e = .returned (.tuple #[OutV (frame v (x.toNat : Int) B) B (.slice p1 (frame v (x.toNat : Int) B).v.m.scr.length c1) (.slice p2 (frame v (x.toNat : Int) B).v.m.tones.length c2), .int .i64 0]) /\ M.Row w' w.heap.size (.slice p1 (frame v (x.toNat : Int) B).v.m.scr.length c1) (frame v (x.toNat : Int) B).v.m.scr /\ M.TRow w' w.heap.size (.slice p2 (frame v (x.toNat : Int) B).v.m.tones.length c2) (frame v (x.toNat : Int) B).v.m.tones /\ VD w w' g bd br bm kv F (frame v (x.toNat : Int) B).v := by
 refine (frame_lo x B hB0 hB1 g bd br bm kv F v w h).mono ?_
 rintro e w' ⟨p1, c1, p2, c2, he, lo, h1, h2, h3⟩
 exact ⟨p1, c1, p2, c2, he, S.own_mono h1 h3.l0, S.own_mono h2 h3.l0, h3.vd h⟩
end Go.Proofs.YteldjmecomngeaaGreat.V
