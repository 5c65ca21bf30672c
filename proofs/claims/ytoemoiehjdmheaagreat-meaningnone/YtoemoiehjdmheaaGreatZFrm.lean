import Derived.Test.YtoemoiehjdmheaaGreatZEnt
import Derived.Deep.RegionHeldLaw
namespace Go.Proofs.YtoemoiehjdmheaaGreat.Z
open Go.RowKit
open Go.Proofs
open Go.Proofs.YtoemoiehjdmheaaGreat.Y (Nd Df Ps Pl hid ZV)
set_option linter.unusedVariables false
set_option linter.unusedSimpArgs false
set_option maxHeartbeats 4000000
set_option maxRecDepth 100000
theorem step_store_row {ops : Array Oper} {o : Oper} {a : Act} {w : World} {K : Act -> World -> Prop} {Q : Exit -> Act -> World -> Prop} {E : Prop} (hgd : o.guard = none) (ty : TypeId) (x y : Operand) (ho : o.op = .store ty x y)
  (g : Nat) (cells : Array Value) (hx : a.eval x = .pointer (some ⟨g, 0, none⟩)) (hy : a.eval y = .agg cells)
  (t : TypeId) (old : Array Value) (hg : w.heap[g]? = some (.cells old t (0, 0))) (hi : (Tryz.prog.info? ty).map (·.size) = some cells.size)
  (hold : old.size = cells.size) (h1 : cells.all (·.oneCell') = true) (h : K (a.put o.dst undef) (w.setRow g cells)) :
  if Region.wanted o (yielded ops a.tmps) = true then Oper.wp Tryz.prog o a w K Q else E := by
 have hw : Region.wanted o (yielded ops a.tmps) = true := by simp [Region.wanted, hgd]
 rw [if_pos hw]
 exact wp_store_row ty x y ho g cells hx hy t old hg hi hold h1 h
theorem own_lt {w : World} {B : Nat} {e : TypeId} {size : Nat} {v : Value} {n : Nat} {xs : List Value} (h : w.ownsRow B e size v n xs) (k : Nat) (hk : v.ownBlock = some k) : B <= k /\ k < w.heap.size := by
 rcases h.2 with ⟨rfl, _⟩ | ⟨g, cap, cur, rfl, h2, h3, _⟩
 ·simp [Value.ownBlock] at hk
 ·simp [Value.ownBlock] at hk; subst hk; exact ⟨h2, S.lt_of h3⟩
theorem own_form {w : World} {B : Nat} {e : TypeId} {size : Nat} {v : Value} {n : Nat} {xs : List Value} (h : w.ownsRow B e size v n xs) : ∃ p cap, v = .slice p n cap := by
 rcases h.2 with ⟨h, e⟩ | ⟨g, cap, cur, h1, _⟩
 ·exact ⟨none, 0, by rw [h, e]⟩
 ·exact ⟨_, cap, h1⟩
theorem wk_tones (B : Int) : ∀ (k : Nat) (v : VS) (n s : Int), (wk k B v n s).v.m.tones.length <= v.m.tones.length + 3 * k
 | 0, v, n, s => by simp [wk]
 | k + 1, v, n, s => by
  have hd := doo_tones (look v) (cyc s v)
  have hc : (cyc s v).m.tones.length = v.m.tones.length := rfl
  have ih := wk_tones B k (doo (look v) (cyc s v)).2 (n + 1) (s + cost (look v).op)
  unfold wk
  split
  ·split
   ·simp only; omega
   ·split
    ·split
     ·simp only; omega
     ·omega
    ·show (cyc s v).m.tones.length <= _; omega
  ·simp only; omega
theorem wk_r (B : Int) : ∀ (k : Nat) (v : VS) (n s : Int), s <= B -> n <= (wk k B v n s).steps /\ (wk k B v n s).steps - n <= (wk k B v n s).spent - s /\ (wk k B v n s).spent - s <= 4 * ((wk k B v n s).steps - n) /\ (wk k B v n s).spent <= B
 | 0, v, n, s, h => by simp [wk]; omega
 | k + 1, v, n, s, h => by
  have hr := cost_r (look v).op
  unfold wk
  split
  ·split
   ·simp only; omega
   ·rename_i q1 q2
    have ih := wk_r B k (doo (look v) (cyc s v)).2 (n + 1) (s + cost (look v).op) (by omega)
    split
    ·split
     ·simp only; omega
     ·omega
    ·simp only; omega
  ·simp only; omega
def z7 : Array Value := #[.int .i64 0, .int .i64 0, .int .i64 0, .int .i64 0, .int .i64 0, .slice none 0 0, .slice none 0 0]
theorem sizeO : (Tryz.prog.info? 28).map (·.size) = some 7 := by kernel_rfl
section
variable {W w w2 w4 : World} {g bd br bm bs c : Nat} {F O : Nat -> Prop} {v u : VS}
theorem MV.c3s (h : MV W g bd br bm bs c F O u) : W.cell? ⟨g, 0, none⟩ = some (.int .i64 u.st) /\ W.cell? ⟨g, 1, none⟩ = some (.int .i64 u.fa) /\ W.cell? ⟨g, 4, none⟩ = some (.pointer (some ⟨bm, 0, none⟩)) := ⟨h.c0, h.c1, h.c4⟩
theorem MV.row3 (h : MV W g bd br bm bs c F O u) (N : Nat) (hN : g ≠ N) (c : Array Value) : (W.setRow N c).cell? ⟨g, 0, none⟩ = some (.int .i64 u.st) /\ (W.setRow N c).cell? ⟨g, 1, none⟩ = some (.int .i64 u.fa) /\ (W.setRow N c).cell? ⟨g, 4, none⟩ = some (.pointer (some ⟨bm, 0, none⟩)) := by
 have e : (W.setRow N c).heap[g]? = W.heap[g]? := setRow_other W N g c hN
 exact ⟨(World.cell?_of_block (a := ⟨g, 0, none⟩) e).trans h.c0, (World.cell?_of_block (a := ⟨g, 1, none⟩) e).trans h.c1, (World.cell?_of_block (a := ⟨g, 4, none⟩) e).trans h.c4⟩
theorem MV.setRow (h : MV W g bd br bm bs c F O v) (N : Nat) (x : Array Value) (h1 : N ≠ g) (h2 : N ≠ bd) (h3 : N ≠ br) (h4 : ¬ F N) (h5 : N ≠ bs) (h6 : ¬ O N) : MV (W.setRow N x) g bd br bm bs c F O v := by
 have o : ∀ k, k ≠ N -> (W.setRow N x).heap[k]? = W.heap[k]? := fun k hk => setRow_other W N k x hk
 obtain ⟨xs, hr, hp⟩ := h.row
 exact { h with
  blk := (o _ (Ne.symm h1)).trans h.blk
  ps := ⟨h.ps.d.kept (o _ (Ne.symm h2)), h.ps.r.kept (o _ (Ne.symm h3)), h.ps.m.kept fun k _ f => o k (by rintro rfl; exact h4 f), h.ps.dr, h.ps.fd, h.ps.fr⟩
  row := ⟨xs, S.own_kept hr fun k e _ => o k (by cases e; exact Ne.symm h5), hp.kept (fun k hk => o k (by rintro rfl; exact h6 hk)) fun _ h => h⟩
  ol := fun k e => by rw [setRow_size]; exact h.ol k e
  fl := fun k e => by rw [setRow_size]; exact h.fl k e }
structure VL (w w' : World) (lo g bd br bm bs : Nat) (F O : Nat -> Prop) (v : VS) : Prop where
 l0 : w.heap.size <= lo
 l1 : lo <= w'.heap.size
 s : ∃ bs' c' F', MV w' g bd br bm bs' c' F' O v /\ (∀ i, F' i -> F i \/ (w.heap.size <= i /\ i < lo)) /\ (bs' = bs \/ (w.heap.size <= bs' /\ bs' < lo))
 t : S.Tc (TV g bd br bs F) w w'
theorem VL.vd {w' : World} {lo : Nat} (h : VL w w' lo g bd br bm bs F O u) : VD w w' g bd br bm bs F O u := by
 have l0 := h.l0
 have l1 := h.l1
 obtain ⟨bs', c', F', hM, hF, hb⟩ := h.s
 refine ⟨⟨bs', c', F', hM, fun i hi => ?_, ?_⟩, h.t⟩
 ·rcases hF i hi with hi | ⟨hi, hi'⟩
  ·exact .inl hi
  ·exact .inr ⟨hi, by omega⟩
 ·rcases hb with e | ⟨e, _⟩
  ·exact .inl e
  ·exact .inr e
theorem MV.around (h0 : MV w g bd br bm bs c F O v) (hB : Below w.heap.size w W) (hs : w.heap.size < W.heap.size) (k : VD W w2 g bd br bm bs F O u) (hD : Below w2.heap.size w2 w4) (x : Array Value) :
  VL w (w4.setRow w.heap.size x) w2.heap.size g bd br bm bs F O u := by
 have a1 := k.t.size
 have a2 := hD.size
 have a3 := h0.lt
 have a4 := h0.lt_d
 have a5 := h0.lt_r
 have a6 := h0.lt_s
 obtain ⟨bs2, c2, F2, hM2, hF2, hb2⟩ := k.s
 have nf : ¬ F2 w.heap.size := fun f => by
  rcases hF2 _ f with f | ⟨f, _⟩
  ·have := h0.fl _ f; omega
  ·omega
 have hM : MV (w4.setRow w.heap.size x) g bd br bm bs2 c2 F2 O u := (hM2.below hD).setRow w.heap.size x (by omega) (by omega) (by omega) nf (by rcases hb2 with rfl | e <;> omega) (fun e => by have := h0.ol _ e; omega)
 refine ⟨by omega, by rw [setRow_size]; omega, ⟨bs2, c2, F2, hM, fun i hi => ?_, ?_⟩, ⟨?_, ?_, ?_, ?_, fun i hi n => ?_⟩⟩
 ·rcases hF2 i hi with e | ⟨e, e'⟩
  ·exact .inl e
  ·exact .inr ⟨by omega, e'⟩
 ·rcases hb2 with e | e
  ·exact .inl e
  ·exact .inr ⟨by omega, hM2.lt_s⟩
 ·exact hD.os.trans (k.t.os.trans hB.os)
 ·exact hD.tape.trans (k.t.tape.trans hB.tape)
 ·exact hD.output.trans (k.t.output.trans hB.output)
 ·rw [setRow_size]; omega
 ·rw [setRow_other w4 w.heap.size i x (by omega), hD.block i (by omega), k.t.block i (by omega) n, hB.block i hi]
end
def FrL (w w' : World) (a b : Value) (x : List UInt8) (y : List (Int × Int × Int)) (g bd br bm bs : Nat) (F O : Nat -> Prop) (v : VS) : Prop := ∃ lo, M.Row w' lo a x /\ M.TRow w' lo b y /\ VL w w' lo g bd br bm bs F O v
def OutV (r : WK) (B : Int) (a b : Value) : Value := .agg #[.int .i64 r.v.st, .int .i64 r.v.fa, .int .i64 r.steps, .int .i64 r.spent, .int .i64 (B - r.spent), a, b]
theorem frame_lo (x : UInt8) (B : Int) (hB0 : 4 <= B) (hB1 : B <= 16384) (g bd br bm bs c : Nat) (F O : Nat -> Prop) (v : VS) (w : World) (hk : calls v.R = v.o.length) (h : MV w g bd br bm bs c F O v) :
  Calls Tryz.prog 7 #[.pointer (some ⟨g, 0, none⟩), .int .u8 (x.toNat : Int), .int .i64 B] w fun e w' => ∃ p1 c1 p2 c2, e = .returned (.tuple #[OutV (frame v (x.toNat : Int) B) B (.slice p1 (frame v (x.toNat : Int) B).v.m.scr.length c1) (.slice p2 (frame v (x.toNat : Int) B).v.m.tones.length c2), .int .i64 0]) /\ FrL w w' (.slice p1 (frame v (x.toNat : Int) B).v.m.scr.length c1) (.slice p2 (frame v (x.toNat : Int) B).v.m.tones.length c2) (frame v (x.toNat : Int) B).v.m.scr (frame v (x.toNat : Int) B).v.m.tones g bd br bm bs F O (frame v (x.toNat : Int) B).v := by
 have hz := heap_alloc_new w (.cells #[.int .i64 0, .int .i64 0, .int .i64 0, .int .i64 0, .int .i64 0, .slice none 0 0, .slice none 0 0] 28)
 have hb := P.bel_alloc w (.cells #[.int .i64 0, .int .i64 0, .int .i64 0, .int .i64 0, .int .i64 0, .slice none 0 0, .slice none 0 0] 28)
 have hM := h.below hb
 have hlt := h.lt
 generalize hW : w.alloc (.cells #[.int .i64 0, .int .i64 0, .int .i64 0, .int .i64 0, .int .i64 0, .slice none 0 0, .slice none 0 0] 28) = W at *
 have c4 := hM.c4
 have k0 := M.begin_any bm x W hM.ps.m
 have b1 : decide (B < 4) = false := decide_eq_false (by omega)
 have b2 : decide (16384 < B) = false := decide_eq_false (by omega)
 obtain ⟨r, hr⟩ : ∃ r, r = frame v (x.toNat : Int) B := ⟨_, rfl⟩
 rw [<- hr]
 have HR := hid hr
 have H0 := hid h
 have HM := hid hM
 have HB := hid hb
 have HZ := hid hz
 have hs : w.heap.size <= W.heap.size := hb.size
 have hs' : w.heap.size < W.heap.size := S.lt_of hz
 clear h hb hM hz hr
 go_enter Tryz.func7, Tryz.ntmps7
 go_wp2_with fail
 refine k0.mono ?_
 rintro e w1 ⟨rfl, hd⟩
 have hV1 : VD W w1 g bd br bm bs F O { v with m := M.bg v.m (x.toNat : Int) } := HM.out.goes (HM.out.ps.mem hd) ⟨HM.out.wf.d, HM.out.wf.r, HM.out.wf.c, HM.out.wf.o, HM.out.wf.l⟩
 obtain ⟨bs1, d1, F1, hM1, hF1, hbs1⟩ := hV1.s
 have kw := work_any { v with m := M.bg v.m (x.toNat : Int) } B hB0 hB1 (by simp [M.bg]) hk g bd br bm bs1 d1 F1 O w1 hM1
 have er : wk B.toNat B { v with m := M.bg v.m (x.toNat : Int) } 0 0 = r := by rw [HR.out]; rfl
 rw [er] at kw
 have HV1 := hid (And.intro hV1 (And.intro hF1 hbs1))
 have ht := wk_tones B B.toNat { v with m := M.bg v.m (x.toNat : Int) } 0 0
 have hr := wk_r B B.toNat { v with m := M.bg v.m (x.toNat : Int) } 0 0 (by omega)
 rw [er] at ht hr
 have ht : r.v.m.tones.length <= 1000000 := by simp only [M.bg, List.length_nil] at ht; omega
 obtain ⟨u, n, s⟩ := r
 simp only at kw ht hr
 have ws : IntKind.i64.wrap (B - s) = B - s := S.i64_id _ (by omega) (by omega)
 have ws' : wrap64 (B - s) = B - s := by simp [wrap64]; omega
 clear k0 hd hV1 c4 er hr hM1 hF1 hbs1
 go_wp2_with fail
 refine kw.mono ?_
 rintro e w2 ⟨rfl, hV2⟩
 have hV2 : VD W w2 g bd br bm bs F O u := VD.step HV1.out.1.t HV1.out.2.1 HV1.out.2.2 hV2
 have hz2 := (hV2.other H0.out hs w.heap.size (Nat.le_refl _) (S.lt_of HZ.out)).trans HZ.out
 have HZ2 := hid hz2
 have s2 : w.heap.size < w2.drew.heap.size := Nat.lt_of_lt_of_le hs' hV2.t.size
 obtain ⟨bs2, d2, F2, hM2, hF2, hbs2⟩ := hV2.s
 have HV2 := hid hV2
 have hM2 : MV w2.drew g bd br bm bs2 d2 F2 O u := hM2.below ⟨rfl, rfl, rfl, Nat.le_refl _, fun _ _ => rfl⟩
 have s0 := hM2.c3s
 have k1 := M.screen_any bm w2.drew hM2.ps.m
 have HM2 := hid hM2
 clear kw hV2 hz2 hM2 HV1 hF2 hbs2
 go_wp2_with fail
 refine wp_region_held_drew (S := (fun w' => w'.cell? ⟨g, 0, none⟩ = some (.int .i64 u.st) /\ w'.cell? ⟨g, 1, none⟩ = some (.int .i64 u.fa) /\ w'.cell? ⟨g, 4, none⟩ = some (.pointer (some ⟨bm, 0, none⟩)))) (by kernel_rfl) s0 (fun hHeld => ?_)
 refine wpAnyH_take (i := 0) (v := ?_) rfl (by kernel_rfl) (by kernel_rfl) (by kernel_rfl) (fun c a w h => h) (Or.inl ⟨by rfl, ?_⟩) hHeld ?_
 rotate_left
 ·(intro w hSw; (try dsimp only at hSw); go_simp; try with_reducible rfl)
 simp only [Act.put, List.setIfInBounds_toArray, List.set_cons_zero, List.set_cons_succ]
 refine wpAnyH_take (i := 1) (v := ?_) rfl (by kernel_rfl) (by kernel_rfl) (by kernel_rfl) (fun c a w h => h) (Or.inl ⟨by rfl, ?_⟩) hHeld ?_
 rotate_left
 ·(intro w hSw; (try dsimp only at hSw); go_simp; try with_reducible rfl)
 simp only [Act.put, List.setIfInBounds_toArray, List.set_cons_zero, List.set_cons_succ]
 refine wpAnyH_take (i := 2) (v := ?_) rfl (by kernel_rfl) (by kernel_rfl) (by kernel_rfl) (fun c a w h => h) (Or.inl ⟨by rfl, ?_⟩) hHeld ?_
 rotate_left
 ·(intro w hSw; (try dsimp only at hSw); go_simp; try with_reducible rfl)
 simp only [Act.put, List.setIfInBounds_toArray, List.set_cons_zero, List.set_cons_succ]
 refine wpAnyH_take (i := 3) (v := ?_) rfl (by kernel_rfl) (by kernel_rfl) (by kernel_rfl) (fun c a w h => h) (Or.inl ⟨by rfl, ?_⟩) hHeld ?_
 rotate_left
 ·(intro w hSw; (try dsimp only at hSw); go_simp; try with_reducible rfl)
 simp only [Act.put, List.setIfInBounds_toArray, List.set_cons_zero, List.set_cons_succ]
 refine wpAnyH_take (i := 4) (v := ?_) rfl (by kernel_rfl) (by kernel_rfl) (by kernel_rfl) (fun c a w h => h) (Or.inl ⟨by rfl, ?_⟩) hHeld ?_
 rotate_left
 ·(intro w hSw; (try dsimp only at hSw); go_simp; try with_reducible rfl)
 simp only [Act.put, List.setIfInBounds_toArray, List.set_cons_zero, List.set_cons_succ]
 refine wpAnyH_take (i := 5) (v := ?_) rfl (by kernel_rfl) (by kernel_rfl) (by kernel_rfl) (fun c a w h => h) (Or.inl ⟨by rfl, ?_⟩) hHeld ?_
 rotate_left
 ·(intro w hSw; (try dsimp only at hSw); go_simp; try with_reducible rfl)
 simp only [Act.put, List.setIfInBounds_toArray, List.set_cons_zero, List.set_cons_succ]
 refine wpAnyH_take (i := 6) (v := ?_) rfl (by kernel_rfl) (by kernel_rfl) (by kernel_rfl) (fun c a w h => h) (Or.inl ⟨by rfl, ?_⟩) hHeld ?_
 rotate_left
 ·(intro w hSw; (try dsimp only at hSw); go_simp; try with_reducible rfl)
 simp only [Act.put, List.setIfInBounds_toArray, List.set_cons_zero, List.set_cons_succ]
 refine wpAnyH_take (i := 7) (v := ?_) rfl (by kernel_rfl) (by kernel_rfl) (by kernel_rfl) (fun c a w h => h) (Or.inl ⟨by rfl, ?_⟩) hHeld ?_
 rotate_left
 ·(intro w hSw; (try dsimp only at hSw); go_simp; try with_reducible rfl)
 simp only [Act.put, List.setIfInBounds_toArray, List.set_cons_zero, List.set_cons_succ]
 refine wpAnyH_take (i := 8) (v := ?_) rfl (by kernel_rfl) (by kernel_rfl) (by kernel_rfl) (fun c a w h => h) (Or.inl ⟨by rfl, ?_⟩) hHeld ?_
 rotate_left
 ·(intro w hSw; (try dsimp only at hSw); go_simp; try with_reducible rfl)
 simp only [Act.put, List.setIfInBounds_toArray, List.set_cons_zero, List.set_cons_succ]
 refine wpAnyH_take (i := 9) (v := ?_) rfl (by kernel_rfl) (by kernel_rfl) (by kernel_rfl) (fun c a w h => h) (Or.inl ⟨by rfl, ?_⟩) hHeld ?_
 rotate_left
 ·(intro w hSw; (try dsimp only at hSw); go_simp; try with_reducible rfl)
 simp only [Act.put, List.setIfInBounds_toArray, List.set_cons_zero, List.set_cons_succ]
 refine wpAnyH_take (i := 10) (v := ?_) rfl (by kernel_rfl) (by kernel_rfl) (by kernel_rfl) (fun c a w h => h) (Or.inl ⟨by rfl, ?_⟩) hHeld ?_
 rotate_left
 ·(intro w hSw; (try dsimp only at hSw); go_simp; try with_reducible rfl)
 simp only [Act.put, List.setIfInBounds_toArray, List.set_cons_zero, List.set_cons_succ]
 refine wpAnyH_take (i := 11) (v := ?_) rfl (by kernel_rfl) (by kernel_rfl) (by kernel_rfl) (fun c a w h => h) (Or.inl ⟨by rfl, ?_⟩) hHeld ?_
 rotate_left
 ·(intro w hSw; (try dsimp only at hSw); go_simp; try with_reducible rfl)
 simp only [Act.put, List.setIfInBounds_toArray, List.set_cons_zero, List.set_cons_succ]
 refine wpAnyH_take (i := 12) (v := ?_) rfl (by kernel_rfl) (by kernel_rfl) (by kernel_rfl) (fun c a w h => h) (Or.inl ⟨by rfl, ?_⟩) hHeld ?_
 rotate_left
 ·(intro w hSw; (try dsimp only at hSw); go_simp; try with_reducible rfl)
 simp only [Act.put, List.setIfInBounds_toArray, List.set_cons_zero, List.set_cons_succ]
 refine wpAnyH_take (i := 13) (v := ?_) rfl (by kernel_rfl) (by kernel_rfl) (by kernel_rfl) (fun c a w h => h) (Or.inl ⟨by rfl, ?_⟩) hHeld ?_
 rotate_left
 ·(intro w hSw; (try dsimp only at hSw); go_simp; try with_reducible rfl)
 simp only [Act.put, List.setIfInBounds_toArray, List.set_cons_zero, List.set_cons_succ]
 refine wpAnyH_take (i := 14) (v := ?_) rfl (by kernel_rfl) (by kernel_rfl) (by kernel_rfl) (fun c a w h => h) (Or.inl ⟨by rfl, ?_⟩) hHeld ?_
 rotate_left
 ·(intro w hSw; (try dsimp only at hSw); go_simp; try with_reducible rfl)
 simp only [Act.put, List.setIfInBounds_toArray, List.set_cons_zero, List.set_cons_succ]
 refine wpAnyH_take (i := 15) (v := ?_) rfl (by kernel_rfl) (by kernel_rfl) (by kernel_rfl) (fun c a w h => h) (Or.inl ⟨by rfl, ?_⟩) hHeld ?_
 rotate_left
 ·(intro w hSw; (try dsimp only at hSw); go_simp; try with_reducible rfl)
 simp only [Act.put, List.setIfInBounds_toArray, List.set_cons_zero, List.set_cons_succ]
 refine wpAnyH_take (i := 16) (v := ?_) rfl (by kernel_rfl) (by kernel_rfl) (by kernel_rfl) (fun c a w h => h) (Or.inl ⟨by rfl, ?_⟩) hHeld ?_
 rotate_left
 ·(intro w hSw; (try dsimp only at hSw); go_simp; try with_reducible rfl)
 simp only [Act.put, List.setIfInBounds_toArray, List.set_cons_zero, List.set_cons_succ]
 refine wpAnyH_take (i := 18) (v := ?_) rfl (by kernel_rfl) (by kernel_rfl) (by kernel_rfl) (fun c a w h => h) (Or.inl ⟨by rfl, ?_⟩) hHeld ?_
 rotate_left
 ·(intro w hSw; (try dsimp only at hSw); go_simp; try with_reducible rfl)
 simp only [Act.put, List.setIfInBounds_toArray, List.set_cons_zero, List.set_cons_succ]
 refine wpAnyH_take (i := 19) (v := ?_) rfl (by kernel_rfl) (by kernel_rfl) (by kernel_rfl) (fun c a w h => h) (Or.inl ⟨by rfl, ?_⟩) hHeld ?_
 rotate_left
 ·(intro w hSw; (try dsimp only at hSw); go_simp; try with_reducible rfl)
 simp only [Act.put, List.setIfInBounds_toArray, List.set_cons_zero, List.set_cons_succ]
 refine wpAnyH_take (i := 20) (v := ?_) rfl (by kernel_rfl) (by kernel_rfl) (by kernel_rfl) (fun c a w h => h) (Or.inl ⟨by rfl, ?_⟩) hHeld ?_
 rotate_left
 ·(intro w hSw; (try dsimp only at hSw); go_simp; try with_reducible rfl)
 simp only [Act.put, List.setIfInBounds_toArray, List.set_cons_zero, List.set_cons_succ]
 refine wpAnyH_take (i := 21) (v := ?_) rfl (by kernel_rfl) (by kernel_rfl) (by kernel_rfl) (fun c a w h => h) (Or.inl ⟨by rfl, ?_⟩) hHeld ?_
 rotate_left
 ·(intro w hSw; (try dsimp only at hSw); go_simp; try with_reducible rfl)
 simp only [Act.put, List.setIfInBounds_toArray, List.set_cons_zero, List.set_cons_succ]
 refine wpAnyH_ready (rs := [17]) (by kernel_rfl) (by simp) ?_
 refine AllReadyH.cons rfl (fun K hK => ?_) AllReadyH.nil
 go_simp
 refine k1.mono ?_
 rintro e w3 ⟨u1, rfl, r1, d1⟩
 obtain ⟨p1, c1, rfl⟩ := own_form r1
 have hM3 := HM2.out.below d1
 have s3 := hM3.c3s
 have k2 := M.tones_any bm w3 hM3.ps.m ht
 have HD3 := hid (show Below w2.drew.heap.size w2.drew w3 from d1)
 have HR1 := hid (show M.Row w3 w2.drew.heap.size (.slice p1 u.m.scr.length c1) u.m.scr from r1)
 have HM3 := hid hM3
 clear k1 r1 d1 hM3 s0
 refine hK.out _ _ s3 (fun hHeld => ?_)
 clear hK K
 try simp only [Act.put, List.setIfInBounds_toArray, List.set_cons_zero, List.set_cons_succ]
 refine wpAnyH_ready (rs := [22]) (by kernel_rfl) (by simp) ?_
 refine AllReadyH.cons rfl (fun K hK => ?_) AllReadyH.nil
 go_simp
 refine k2.mono ?_
 rintro e w4 ⟨u2, rfl, r2, d2⟩
 obtain ⟨p2, c2, rfl⟩ := own_form r2
 have hM4 := HM3.out.below d2
 have s4 := hM4.c3s
 have HD4 := hid (show Below w2.drew.heap.size w2.drew w4 from trB HD3.out d2 HD3.out.size)
 have HR2 := hid (show M.TRow w4 w3.heap.size (.slice p2 u.m.tones.length c2) u.m.tones from r2)
 have HR1' := hid (show M.Row w4 w2.drew.heap.size (.slice p1 u.m.scr.length c1) u.m.scr from HR1.out.below d2)
 have hz4 : w4.heap[w.heap.size]? = some (.cells z7 28 (0, 0)) := (HD4.out.block _ s2).trans HZ2.out
 have s5 : (fun w' => w'.cell? ⟨g, 0, none⟩ = some (.int .i64 u.st) /\ w'.cell? ⟨g, 1, none⟩ = some (.int .i64 u.fa) /\ w'.cell? ⟨g, 4, none⟩ = some (.pointer (some ⟨bm, 0, none⟩))) (w4.setRow w.heap.size #[.int .i64 u.st, .int .i64 u.fa, .int .i64 n, .int .i64 s, .int .i64 (B - s), .slice p1 u.m.scr.length c1, .slice p2 u.m.tones.length c2]) := hM4.row3 w.heap.size (Nat.ne_of_lt hlt) _
 have HM4 := hid hM4
 clear k2 r2 d2 s3 HR1 HM3 hM4
 refine hK.out _ _ s4 (fun hHeld => ?_)
 clear hK K
 try simp only [Act.put, List.setIfInBounds_toArray, List.set_cons_zero, List.set_cons_succ]
 refine wpAnyH_ready (rs := [23]) (by kernel_rfl) (by simp) ?_
 refine AllReadyH.cons rfl (fun K hK => ?_) AllReadyH.nil
 go_simp
 refine hK.out _ _ s4 (fun hHeld => ?_)
 clear hK K
 refine wpAnyH_ready (rs := [24]) (by kernel_rfl) (by simp) ?_
 refine AllReadyH.cons rfl (fun K hK => ?_) AllReadyH.nil
 refine step_store_row rfl 28 (.tmp 6) (.tmp 55) rfl w.heap.size #[.int .i64 u.st, .int .i64 u.fa, .int .i64 n, .int .i64 s, .int .i64 (B - s), .slice p1 u.m.scr.length c1, .slice p2 u.m.tones.length c2] (by simp [Act.eval]) (by simp [Act.eval]) 28 z7 hz4 (by exact sizeO) (by rfl) (by simp [Value.oneCell']) ?_
 refine hK.out _ _ s5 (fun hHeld => ?_)
 clear hK K
 refine wpAnyH_ready (rs := [25]) (by kernel_rfl) (by simp) ?_
 refine AllReadyH.cons rfl (fun K hK => ?_) AllReadyH.nil
 go_simp
 refine hK.out _ _ s5 (fun hHeld => ?_)
 clear hK K
 refine wpAnyH_done (by kernel_rfl) ?_ _
 have hfin := setRow_heap w4 w.heap.size _ #[.int .i64 u.st, .int .i64 u.fa, .int .i64 n, .int .i64 s, .int .i64 (B - s), .slice p1 u.m.scr.length c1, .slice p2 u.m.tones.length c2] _ _ hz4
 clear hHeld s4 s5
 try simp only [Act.put, List.setIfInBounds_toArray, List.set_cons_zero, List.set_cons_succ]
 go_wp2
 have hsz : w3.heap.size ≥ w2.drew.heap.size := HD3.out.size
 have hVF := MV.around H0.out HB.out hs' HV2.out ⟨HD4.out.os, HD4.out.tape, HD4.out.output, HD4.out.size, HD4.out.block⟩ #[.int .i64 u.st, .int .i64 u.fa, .int .i64 n, .int .i64 s, .int .i64 (B - s), .slice p1 u.m.scr.length c1, .slice p2 u.m.tones.length c2]
 refine bodyPost_ret (v := .tuple #[OutV ⟨u, n, s⟩ B (.slice p1 u.m.scr.length c1) (.slice p2 u.m.tones.length c2), .int .i64 0]) ?_ rfl ⟨p1, c1, p2, c2, rfl, w2.drew.heap.size, ?_, ?_, hVF⟩
 ·rw [results_cell_tmp rfl]
  simp [asAddr, run_loadVar_row _ w.heap.size _ 28 _ _ _ hfin Tryz.underlying28 rfl sizeO, OutV]
 ·exact S.own_kept HR1'.out fun k e _ => setRow_other w4 w.heap.size k _ (by have := own_lt HR1'.out k e; omega)
 ·exact S.own_mono (S.own_kept HR2.out fun k e _ => setRow_other w4 w.heap.size k _ (by have := own_lt HR2.out k e; omega)) hsz
set_option maxHeartbeats 4000000
set_option maxRecDepth 100000
theorem results_cell_tmp2 {fn : Func} {p u t : Tmp} {ty : TypeId} (h : fn.results = #[.cell p ty, .tmp u, .tmp t]) (tmps : Array Value) (P : Program) (w : World) :
  (results fn tmps).run P w =
   ((asAddr (tmps.getD p undef)).run P w).andThen fun a w₁ => ((loadVar ty a).run P w₁).andThen fun v w₂ => .ok (.tuple #[v, tmps.getD u undef, tmps.getD t undef]) w₂ := by
 simp only [results, h]
 simp [Sem.run_bind, Result.andThen]
theorem mkRow (w : World) (z c : Array Value) (t : TypeId) : (w.alloc (.cells z t)).heap[w.heap.size]? = some (.cells z t (0, 0)) /\ ((w.alloc (.cells z t)).setRow w.heap.size c).heap[w.heap.size]? = some (.cells c t (0, 0)) /\ Below w.heap.size w ((w.alloc (.cells z t)).setRow w.heap.size c) :=
 ⟨heap_alloc_new w _, setRow_heap _ _ _ _ _ _ (heap_alloc_new w _), P.Below.setRow (P.bel_alloc w _) w.heap.size (Nat.le_refl _) c⟩
theorem dnB' {n : Nat} {w w1 : World} (h : Below n w w1) : Below n w w1.drew := ⟨h.os, h.tape, h.output, h.size, h.block⟩
theorem sizeP : (Tryz.prog.info? 33).map (·.size) = some 2 := by kernel_rfl
def zP : Array Value := #[.int .i64 0, .int .i64 0]
theorem frame_nil (x B : Int) (w : World) : Calls Tryz.prog 7 #[.pointer none, .int .u8 x, .int .i64 B] w fun e w' => e = .returned (.tuple #[.agg #[.int .i64 0, .int .i64 0, .int .i64 0, .int .i64 0, .int .i64 0, .slice none 0 0, .slice none 0 0], .int .i64 1]) /\ Below w.heap.size w w' := by
 obtain ⟨hz, hfin, hb⟩ := mkRow w #[.int .i64 0, .int .i64 0, .int .i64 0, .int .i64 0, .int .i64 0, .slice none 0 0, .slice none 0 0] #[.int .i64 0, .int .i64 0, .int .i64 0, .int .i64 0, .int .i64 0, .slice none 0 0, .slice none 0 0] 28
 go_enter Tryz.func7, Tryz.ntmps7
 go_wp2_with (refine wpList_store_row rfl 28 _ _ rfl w.heap.size _ rfl rfl 28 z7 hz (by exact sizeO) (by rfl) (by simp [Value.oneCell']) ?_)
 refine bodyPost_ret (v := .tuple #[.agg #[.int .i64 0, .int .i64 0, .int .i64 0, .int .i64 0, .int .i64 0, .slice none 0 0, .slice none 0 0], .int .i64 1]) ?_ rfl ⟨rfl, hb⟩
 rw [results_cell_tmp rfl]
 simp [asAddr, run_loadVar_row _ w.heap.size _ 28 _ _ _ hfin Tryz.underlying28 rfl sizeO]
theorem data_nil (w : World) : Calls Tryz.prog 10 #[.pointer none] w fun e w' => e = .returned (.slice none 0 0) /\ w' = w := by
 go_enter Tryz.func10, Tryz.ntmps10
 go_wp2
 go_ret
 exact ⟨rfl, rfl⟩
theorem depth_nil (w : World) : Calls Tryz.prog 11 #[.pointer none] w fun e w' => e = .returned (.int .i64 0) /\ w' = w := by
 go_enter Tryz.func11, Tryz.ntmps11
 go_wp2
 go_ret
 exact ⟨rfl, rfl⟩
theorem memory_nil (w : World) : Calls Tryz.prog 12 #[.pointer none] w fun e w' => e = .returned (.pointer none) /\ w' = w := by
 go_enter Tryz.func12, Tryz.ntmps12
 go_wp2
 go_ret
 exact ⟨rfl, rfl⟩
theorem next_fin {w w1 : World} (hz : w1.heap[w.heap.size]? = some (.cells zP 33 (0, 0))) (hb : Below w.heap.size w w1) {a : Act} {p q : Int} {x3 x4 : Value}
  (hp : a.tmps.getD 2 undef = .pointer (some ⟨w.heap.size, 0, none⟩)) (h3 : a.tmps.getD 3 undef = x3) (h4 : a.tmps.getD 4 undef = x4) (hd : a.defers = []) :
  bodyPost Tryz.prog Tryz.f8 (fun e w' => e = .returned (.tuple #[.agg #[.int .i64 p, .int .i64 q], x3, x4]) /\ Below w.heap.size w w') .ret a (w1.setRow w.heap.size #[.int .i64 p, .int .i64 q]) := by
 have hfin := setRow_heap w1 w.heap.size _ #[.int .i64 p, .int .i64 q] _ _ hz
 have hbf := P.Below.setRow hb w.heap.size (Nat.le_refl _) #[.int .i64 p, .int .i64 q]
 refine bodyPost_ret (v := .tuple #[.agg #[.int .i64 p, .int .i64 q], x3, x4]) ?_ hd ⟨rfl, hbf⟩
 rw [results_cell_tmp2 rfl, hp, h3, h4]
 simp [asAddr, run_loadVar_row _ w.heap.size _ 33 _ _ _ hfin Tryz.underlying33 rfl sizeP]
theorem next_nil (w : World) : Calls Tryz.prog 8 #[.pointer none] w fun e w' => e = .returned (.tuple #[.agg #[.int .i64 0, .int .i64 0], .int .i64 0, .bool false]) /\ Below w.heap.size w w' := by
 have hz := heap_alloc_new w (.cells #[.int .i64 0, .int .i64 0] 33)
 have hb := P.bel_alloc w (.cells #[.int .i64 0, .int .i64 0] 33)
 go_enter Tryz.func8, Tryz.ntmps8
 go_wp2_with (refine wpList_store_row rfl 33 _ _ rfl w.heap.size _ rfl rfl 33 zP hz (by exact sizeP) (by rfl) (by simp [Value.oneCell']) ?_)
 exact next_fin hz hb rfl rfl rfl rfl
section
variable {g bd br bm bs c : Nat} {F O : Nat -> Prop} {v : VS}
theorem next_any (w : World) (h : MV w g bd br bm bs c F O v) (q1 : v.st = 1) (hk : calls v.R = v.o.length) : Calls Tryz.prog 8 #[.pointer (some ⟨g, 0, none⟩)] w fun e w' => e = .returned (.tuple #[.agg #[.int .i64 (look v).p.1, .int .i64 (look v).p.2], .int .i64 (cost (look v).op), .bool true]) /\ Below w.heap.size w w' := by
 obtain ⟨W, hW⟩ : ∃ W, w.alloc (.cells #[.int .i64 0, .int .i64 0] 33) = W := ⟨_, rfl⟩
 have hz : W.heap[w.heap.size]? = some (.cells zP 33 (0, 0)) := by rw [<- hW]; exact heap_alloc_new w _
 have hb : Below w.heap.size w W := by rw [<- hW]; exact P.bel_alloc w _
 have hM := h.below hb
 have c0 := hM.c0
 have e1 : (v.st != 1) = false := by simpa using q1
 have kh := here_any hM (calls_le v hk h.wf)
 have hlo := lk_ok v.c.fr v.c.e h.wf.c
 have hlook : lk v.c.fr v.c.e = look v := rfl
 rw [hlook] at hlo
 generalize look v = i at *
 obtain ⟨o1, o2, o3⟩ := okI_parts hlo.1.1
 obtain ⟨m, hm⟩ : ∃ m : Nat, i.op = (m : Int) := ⟨i.op.toNat, by omega⟩
 have hco : cost i.op = P.rc m := by unfold cost; rw [hm]; rfl
 have kc := fun wq W' => cost_any m (by omega) (by omega) i.v wq i.p W'
 rw [<- hm] at kc
 rw [hco]
 generalize P.rc m = co at *
 have hzl := S.lt_of hz
 have HM := hid hM
 have HB := hid hb
 have HZ := hid hz
 have HL := hid hlook
 clear h hM hlo hm o1 o2 o3 hco q1 hz hlook
 go_enter Tryz.func8, Tryz.ntmps8
 go_upto_region 1 with fail
 go_wp2_with fail
 refine kh.mono ?_
 rintro e w1 ⟨x, rfl, hP, hb1⟩
 have HP := hid (And.intro hP hb1)
 clear kh hP hb1 c0 hb
 go_wp2_with (refine wpList_look (W := W) (O := O) rfl rfl (by refine ⟨?_, ?_, ?_, ?_, ?_, ?_, ?_, ?_, ?_⟩ <;> intros <;> kernel_rfl) v.c.fr v.c.e i HL.out x (by rfl) HP.out.1 HM.out.ol HP.out.2 (fun wq w2 hwq hb2 => ?_); have HQ := hid (And.intro hwq (trB HP.out.2 hb2 HP.out.2.size)); clear hwq hb2)
 obtain ⟨W4, hW4, hb4, u4, hs4⟩ := boxn w2 i.op i.v wq i.p
 rw [hW4]
 have hB4 := trB HQ.out.2 hb4 HQ.out.2.size
 have hz4 := (hB4.block _ hzl).trans HZ.out
 have hne : w.heap.size ≠ w2.heap.size := by have := HQ.out.2.size; omega
 have HB4 := hid (And.intro (trB HB.out hB4 HB.out.size) (And.intro hz4 hne))
 have u5 : W4.drew.heap[w2.heap.size]? = _ := u4
 have kc4 := kc wq
 clear kc hW4 hb4 hB4 hz4 hs4
 refine wp_region_held_drew (S := fun w' => w'.heap[w2.heap.size]? = some (.cells [.int .i64 i.op, .int .u16 i.v, .pointer wq, .int .i64 i.p.1, .int .i64 i.p.2].toArray 84 (0, 0))) (by kernel_rfl) u5 (fun hHeld => ?_)
 refine wpAnyH_take (i := 0) (v := ?_) rfl (by kernel_rfl) (by kernel_rfl) (by kernel_rfl) (fun c a w h => h) (Or.inl ⟨by rfl, ?_⟩) hHeld ?_
 rotate_left
 ·(intro w hSw; go_simp; try with_reducible rfl)
 simp only [Act.put, List.setIfInBounds_toArray, List.set_cons_zero, List.set_cons_succ]
 refine wpAnyH_take (i := 1) (v := .agg #[.int .i64 i.p.1, .int .i64 i.p.2]) rfl (by kernel_rfl) (by kernel_rfl) (by kernel_rfl) (fun c a w h => h) (Or.inl ⟨by rfl, ?_⟩) hHeld ?_
 ·(intro w hSw; have x3 := S.cell_of w _ 3 _ _ _ hSw rfl; have x4 := S.cell_of w _ 4 _ _ _ hSw rfl; clear hSw; go_simp; try with_reducible rfl)
 simp only [Act.put, List.setIfInBounds_toArray, List.set_cons_zero, List.set_cons_succ]
 refine wpAnyH_take (i := 2) (v := .agg #[.int .i64 i.op, .int .u16 i.v, .pointer wq, .int .i64 i.p.1, .int .i64 i.p.2]) rfl (by kernel_rfl) (by kernel_rfl) (by kernel_rfl) (fun c a w h => h) (Or.inl ⟨by rfl, ?_⟩) hHeld ?_
 ·(intro w hSw; have x0 := S.cell_of w _ 0 _ _ _ hSw rfl; have x1 := S.cell_of w _ 1 _ _ _ hSw rfl; have x2 := S.cell_of w _ 2 _ _ _ hSw rfl; have x3 := S.cell_of w _ 3 _ _ _ hSw rfl; have x4 := S.cell_of w _ 4 _ _ _ hSw rfl; clear hSw; go_simp; try with_reducible rfl)
 simp only [Act.put, List.setIfInBounds_toArray, List.set_cons_zero, List.set_cons_succ]
 refine wpAnyH_ready (rs := [3]) (by kernel_rfl) (by simp) ?_
 refine AllReadyH.cons rfl (fun K hK => ?_) AllReadyH.nil
 go_simp
 refine (kc4 _).mono ?_
 rintro e w5 ⟨rfl, hb5⟩
 have hs4 : w2.heap.size < W4.drew.heap.size := S.lt_of u5
 have hs4' : w.heap.size < W4.drew.heap.size := Nat.lt_of_lt_of_le hzl (Nat.le_trans HQ.out.2.size (Nat.le_of_lt hs4))
 have u6 := (hb5.block _ hs4).trans u5
 have hz5 : w5.heap[w.heap.size]? = some (.cells zP 33 (0, 0)) := (hb5.block _ hs4').trans HB4.out.2.1
 have hB5 : Below w.heap.size w w5 := trB (dnB' HB4.out.1) hb5 (Nat.le_of_lt hs4')
 have s7 : (w5.setRow w.heap.size #[.int .i64 i.p.1, .int .i64 i.p.2]).heap[w2.heap.size]? = some (.cells [.int .i64 i.op, .int .u16 i.v, .pointer wq, .int .i64 i.p.1, .int .i64 i.p.2].toArray 84 (0, 0)) := (setRow_other w5 w.heap.size w2.heap.size _ (Ne.symm HB4.out.2.2)).trans u6
 refine hK.out _ _ u6 (fun hHeld => ?_)
 clear hK K kc4
 try simp only [Act.put, List.setIfInBounds_toArray, List.set_cons_zero, List.set_cons_succ]
 refine wpAnyH_ready (rs := [4]) (by kernel_rfl) (by simp) ?_
 refine AllReadyH.cons rfl (fun K hK => ?_) AllReadyH.nil
 refine step_store_row rfl 33 (.tmp 2) (.tmp 20) rfl w.heap.size #[.int .i64 i.p.1, .int .i64 i.p.2] (by simp [Act.eval]) (by simp [Act.eval]) 33 zP hz5 (by exact sizeP) (by rfl) (by simp [Value.oneCell']) ?_
 refine hK.out _ _ s7 (fun hHeld => ?_)
 clear hK K
 try simp only [Act.put, List.setIfInBounds_toArray, List.set_cons_zero, List.set_cons_succ]
 refine wpAnyH_ready (rs := [5]) (by kernel_rfl) (by simp) ?_
 refine AllReadyH.cons rfl (fun K hK => ?_) AllReadyH.nil
 go_simp
 refine hK.out _ _ s7 (fun hHeld => ?_)
 clear hK K
 refine wpAnyH_ready (rs := [6]) (by kernel_rfl) (by simp) ?_
 refine AllReadyH.cons rfl (fun K hK => ?_) AllReadyH.nil
 go_simp
 refine hK.out _ _ s7 (fun hHeld => ?_)
 clear hK K
 refine wpAnyH_done (by kernel_rfl) ?_ _
 clear hHeld s7
 try simp only [Act.put, List.setIfInBounds_toArray, List.set_cons_zero, List.set_cons_succ]
 go_wp2
 exact next_fin hz5 hB5 rfl rfl rfl rfl
theorem data_any (w : World) (h : MV w g bd br bm bs c F O v) : Calls Tryz.prog 10 #[.pointer (some ⟨g, 0, none⟩)] w fun e w' => ∃ u, e = .returned u /\ S.RowU w' w.heap.size u v.D /\ Below w.heap.size w w' := by
 have c2 := h.c2
 have k := S.dcells bd v.D w h.ps.d
 clear h
 go_enter Tryz.func10, Tryz.ntmps10
 go_wp2_with fail
 refine k.mono ?_
 rintro e w1 ⟨u, rfl, hu⟩
 clear k
 go_wp2
 go_ret
 exact ⟨u, rfl, hu⟩
end
end Go.Proofs.YtoemoiehjdmheaaGreat.Z
