import Derived.Test.YtlilefhmohkfkaaGreatDoorERfM
namespace Go.Proofs.YtlilefhmohkfkaaGreatDoor.E
open Go.RowKit
open Go.Proofs
open Go.Proofs.YtlilefhmohkfkaaGreatDoor.Y (Nd Df Ps ndc dfc hid)
set_option linter.unusedVariables false
set_option linter.unusedSimpArgs false
set_option maxHeartbeats 2000000
set_option maxRecDepth 100000
def QV {α : Type} (e : α -> List Value) (s : Nat) (T : TypeId) (W : World) (g : Nat) (v : Value) (l : List α) : Prop :=
 (v = .slice none 0 0 /\ l = []) \/ ∃ b c, v = .slice (some ⟨b, 0, none⟩) l.length c /\ l.length <= c /\ b ≠ g /\ (∃ cur, W.heap[b]? = some (.cells cur T (0, 0))) /\ ∀ (i : Nat) (a : α) (j : Nat) (u : Value), l[i]? = some a -> (e a)[j]? = some u -> W.cell? ⟨b, i * s + j, none⟩ = some u
theorem QV.kept {α : Type} {e : α -> List Value} {s : Nat} {T : TypeId} {W W' : World} {g : Nat} {v : Value} {l : List α} (h : QV e s T W g v l) (k : ∀ b cur, b ≠ g -> W.heap[b]? = some (.cells cur T (0, 0)) -> W'.heap[b]? = W.heap[b]?) : QV e s T W' g v l := by
 rcases h with h | ⟨b, c, e1, e2, e3, ⟨cur, e4⟩, e5⟩
 ·exact .inl h
 ·have hb := k b cur e3 e4
  exact .inr ⟨b, c, e1, e2, e3, ⟨cur, hb.trans e4⟩, fun i a j u hi hj => (World.cell?_of_block (w := W) (a := ⟨b, i * s + j, none⟩) hb).trans (e5 i a j u hi hj)⟩
theorem QV.gw {α : Type} {e : α -> List Value} {s : Nat} {T : TypeId} {W W' : World} {g : Nat} {v : Value} {l : List α} (h : QV e s T W g v l) (k : Gw g W W') : QV e s T W' g v l := h.kept fun b cur hb hc => k.block b (S.lt_of hc) hb
theorem QV.below {α : Type} {e : α -> List Value} {s : Nat} {T : TypeId} {W W' : World} {g : Nat} {v : Value} {l : List α} (h : QV e s T W g v l) (k : Below W.heap.size W W') : QV e s T W' g v l := h.gw (Gw.of k)
theorem QV.row {α : Type} {e : α -> List Value} {s : Nat} {T T' : TypeId} {W : World} {g d : Nat} {v : Value} {l : List α} (h : QV e s T W g v l) (r : Array Value) {c : Array Value} (hd : W.heap[d]? = some (.cells c T' (0, 0))) (hT : T' ≠ T) : QV e s T (W.setRow d r) g v l := h.kept fun b cur hb hc => setRow_other W d b r (fun e => hT (by rw [e, hd] at hc; simp only [Option.some.injEq, Obj.cells.injEq] at hc; exact hc.2.1))
theorem QV.ex {α : Type} {e : α -> List Value} {s : Nat} {T : TypeId} {W : World} {g : Nat} {v : Value} {l : List α} (h : QV e s T W g v l) : ∃ p c, v = .slice p l.length c /\ l.length <= c /\ ∀ (i : Nat) (a : α), l[i]? = some a -> ∃ b, p = some ⟨b, 0, none⟩ /\ b ≠ g /\ b < W.heap.size /\ ∀ (j : Nat) (u : Value), (e a)[j]? = some u -> W.cell? ⟨b, i * s + j, none⟩ = some u := by
 rcases h with ⟨rfl, rfl⟩ | ⟨b, c, rfl, e2, e3, ⟨cur, e4⟩, e5⟩
 ·exact ⟨none, 0, rfl, Nat.le_refl _, fun i a h => by simp at h⟩
 ·exact ⟨_, c, rfl, e2, fun i a hi => ⟨b, rfl, e3, S.lt_of e4, fun j u hj => e5 i a j u hi hj⟩⟩
theorem QV.cs {α : Type} {e : α -> List Value} {s : Nat} {T : TypeId} (hs : ∀ a, (e a).length = s) (hp : 0 < s) (h1 : ∀ l : List α, ∀ u ∈ S.en e l, u.oneCell' = true) {W : World} {g : Nat} {v : Value} {l : List α} (h : QV e s T W g v l) : S.Cs W v s l.length (S.en e l) := by
 rcases h with ⟨rfl, rfl⟩ | ⟨b, c, rfl, e2, e3, e4, e5⟩
 ·exact .inl ⟨rfl, rfl, rfl⟩
 ·refine .inr ⟨_, c, rfl, S.en_len hs l, fun j u hj => ?_, h1 l⟩
  obtain ⟨a, ha, hu⟩ := S.en_part hs hp l j u hj
  have := e5 (j / s) a (j % s) u ha hu
  rw [Addr.add_lit, Nat.zero_add]
  rw [Nat.mul_comm, Nat.div_add_mod] at this
  exact this
theorem QV.of_own {α : Type} {e : α -> List Value} {s : Nat} (hs : ∀ a, (e a).length = s) {W : World} {B g : Nat} {t : TypeId} {v : Value} {n : Nat} {l : List α} (h : W.ownsRow B t s v n (S.en e l)) (hn : n = l.length) (hg : g < B) : QV e s t W g v l := by
 subst hn
 rcases h.2 with ⟨rfl, e⟩ | ⟨b, cap, cur, rfl, h2, h3, h4, _, h5, h6⟩
 ·exact .inl ⟨rfl, List.eq_nil_of_length_eq_zero e⟩
 ·refine .inr ⟨b, cap, rfl, h4, by omega, ⟨cur, h3⟩, fun i a j u hi hj => ?_⟩
  have hj' : j < s := by rw [<- hs a]; exact (List.getElem?_eq_some_iff.1 hj).1
  have := World.ownsRow.cells h (g := b) rfl (i * s + j) u (by rw [S.en_get hs l i j a hi hj']; exact hj)
  rw [Addr.add_lit, Nat.zero_add] at this
  exact this
abbrev OV := QV eI 1 3
theorem OV.cell {W : World} {g : Nat} {v : Value} {l : List Int} (h : OV W g v l) (i : Nat) (a : Int) (hi : l[i]? = some a) : ∃ b c, v = .slice (some ⟨b, 0, none⟩) l.length c /\ W.cell? ⟨b, i, none⟩ = some (.int .i64 a) := by
 obtain ⟨p, c, rfl, h2, h3⟩ := h.ex
 obtain ⟨b, rfl, _, _, h4⟩ := h3 i a hi
 exact ⟨b, c, rfl, by have := h4 0 _ rfl; simpa using this⟩
def RB (W : World) (b : Nat) (v : Value) (s : Rs) : Prop := W.heap[b]? = some (.cells (rsc v s).toArray 99 (0, 0))
theorem RB.cells {W : World} {b : Nat} {v : Value} {s : Rs} (h : RB W b v s) : W.cell? ⟨b, 0, none⟩ = some (.int .i64 s.h) /\ W.cell? ⟨b, 1, none⟩ = some v /\ W.cell? ⟨b, 2, none⟩ = some (.bool s.dead) :=
 ⟨S.cell_of W b 0 _ 99 _ h rfl, S.cell_of W b 1 _ 99 _ h rfl, S.cell_of W b 2 _ 99 _ h rfl⟩
theorem RB.fro {W : World} {b : Nat} {v : Value} {s : Rs} (h : RB W b v s) (i : Nat) : W.frozen? ⟨b, i, none⟩ = false := S.frozen_of W b i _ 99 h
theorem RB.below {W W' : World} {b : Nat} {v : Value} {s : Rs} (h : RB W b v s) (k : Below W.heap.size W W') : RB W' b v s := (k.block b (S.lt_of h)).trans h
theorem sizeR : (Tryz.prog.info? 99).map (·.size) = some 3 := by kernel_rfl
def z0 : Rs := ⟨0, [], false⟩
theorem rs_end {fn : Func} {T : Array Value} {b : Nat} {v : Value} {s : Rs} {W : World} (u : Tmp) (hf : fn.results = #[.cell u 99]) (ht : T.getD u undef = .pointer (some ⟨b, 0, none⟩)) (hv : ∃ p n c, v = .slice p n c) (h : RB W b v s) : (results fn T).run Tryz.prog W = .ok (.agg (rsc v s).toArray) W := by
 obtain ⟨p, n, c, rfl⟩ := hv
 have e : (results fn T).run Tryz.prog W = ((asAddr (T.getD u undef)).run Tryz.prog W).andThen fun a w₁ => (loadVar 99 a).run Tryz.prog w₁ := by
  simp only [results, hf]
  simp [Sem.run_bind, Result.andThen]
 rw [e, ht]
 simp [asAddr, run_loadVar_row W b _ 99 _ _ _ h Tryz.underlying99 rfl sizeR]
theorem box_r (s : Rs) (v : Value) (W : World) : ∃ W0, W.alloc (.cells #[.int .i64 s.h, v, .bool s.dead] 99) = W0 /\ Below W.heap.size W W0 /\ W0.heap.size = W.heap.size + 1 /\ RB W0 W.heap.size v s :=
 ⟨_, rfl, (Below.refl _ _).alloc (Nat.le_refl _) _, by simp, heap_alloc_new W _⟩
theorem last_any (s : Rs) (sv : Value) (n : Nat) (hn : n <= 2) (hl : s.own.length <= 1000) (g : Nat) (W : World) (ho : OV W g sv s.own) :
  Calls Tryz.prog 82 #[.agg (rsc sv s).toArray, .int .i64 (n : Int)] W fun e w' => e = .returned (.int .i64 (rlast s.own n)) /\ Below W.heap.size W w' := by
 obtain ⟨W0, hW0, hB, hs, k1⟩ := box_r s sv W
 obtain ⟨x0, x1, x2⟩ := k1.cells
 have HB := hid hB
 have HK : Y.Hd (rlast s.own n = if s.own.length <= n then 0 else s.own.getD (s.own.length - 1 - n) 0) := ⟨rfl⟩
 generalize rlast s.own n = z at *
 unfold rsc
 by_cases c : s.own.length <= n
 ·obtain ⟨q, cc, rfl, _, _⟩ := ho.ex
  have c2 : decide ((n : Int) ≥ (s.own.length : Int)) = true := decide_eq_true (by omega)
  have c1 : decide ((s.own.length : Int) <= (n : Int)) = true := decide_eq_true (by omega)
  clear k1 hB hs
  go_enter Tryz.func82, Tryz.ntmps82
  go_wp2
  go_ret
  exact ⟨by rw [HK.out, if_pos c]; rfl, HB.out⟩
 ·have hlt : s.own.length - 1 - n < s.own.length := by omega
  have ha := List.getElem?_eq_getElem hlt
  have HK2 : Y.Hd (z = s.own[s.own.length - 1 - n]) := ⟨by rw [HK.out, if_neg c, List.getD_eq_getElem?_getD, ha]; rfl⟩
  generalize s.own[s.own.length - 1 - n] = y at *
  obtain ⟨b, cc, rfl, hcl⟩ := OV.cell (ho.below hB) _ y ha
  have c2 : decide ((n : Int) ≥ (s.own.length : Int)) = false := decide_eq_false (by omega)
  have c1 : decide ((s.own.length : Int) <= (n : Int)) = false := decide_eq_false (by omega)
  clear k1 hB hs ha HK
  go_enter Tryz.func82, Tryz.ntmps82
  go_wp2
  go_ret
  exact ⟨by rw [HK2.out]; rfl, HB.out⟩
theorem q_ge {W : World} {B : Nat} {e : TypeId} {size : Nat} {v : Value} {n : Nat} {xs : List Value} (h : W.ownsRow B e size v n xs) : ∀ g, v.ownBlock = some g -> B <= g := by
 intro g hg
 rcases h.2 with ⟨rfl, _⟩ | ⟨g', cap, cur, rfl, h2, _⟩
 ·cases hg
 ·cases hg; exact h2
theorem q_sl {W : World} {B : Nat} {e : TypeId} {size : Nat} {v : Value} {n : Nat} {xs : List Value} (h : W.ownsRow B e size v n xs) : ∃ p c, v = .slice p n c := by
 rcases h.2 with ⟨rfl, rfl⟩ | ⟨g', cap, cur, rfl, h2, _⟩
 ·exact ⟨_, _, rfl⟩
 ·exact ⟨_, _, rfl⟩
theorem infoI : (Tryz.prog.info? 3).map (fun i => (i.zero, i.size, i.bytes)) = some (some (.int .i64 0), 1, 8) := by kernel_rfl
theorem add_any (s : Rs) (sv : Value) (ks : List Int) (kvv : Value) (hkv : ∃ p n c, kvv = .slice p n c) (g : Nat) (W : World) (hg : g < W.heap.size) (hl : s.own.length <= 1000) (hk : ks.length <= 1000) (ho : OV W g sv s.own) (hks : S.Cs W kvv 1 ks.length (S.en eI ks)) :
  Calls Tryz.prog 74 #[.agg (rsc sv s).toArray, kvv] W fun e w' => ∃ v', e = .returned (.agg (rsc v' { s with own := s.own ++ ks }).toArray) /\ OV w' g v' (s.own ++ ks) /\ Below W.heap.size W w' := by
 obtain ⟨kp, kn, kc, rfl⟩ := hkv
 obtain ⟨sp, sc, hsv, _, _⟩ := id ho.ex
 subst hsv
 obtain ⟨W0, hW0, hB0, hs0, k0⟩ := box_r s (.slice sp s.own.length sc) W
 obtain ⟨W1, hW1, hB1, hs1, k1⟩ := box_r z0 (.slice none 0 0) W0
 unfold z0 at hW1
 simp only at hW1
 obtain ⟨W2, hW2⟩ : ∃ W2, W1.alloc (.cells #[] 3) = W2 := ⟨_, rfl⟩
 have hB2 : Below W1.heap.size W1 W2 := by rw [<- hW2]; exact (Below.refl _ _).alloc (Nat.le_refl _) _
 have hBW1 : Below W.heap.size W W1 := hB0.trans (hB1.mono (by omega))
 have hBW2 : Below W.heap.size W W2 := hBW1.trans (hB2.mono (by omega))
 have hown : W2.ownsRow W1.heap.size 3 1 (.slice (some ⟨W1.heap.size, 0, none⟩) 0 0) 0 [] := by rw [<- hW2]; exact S.own_empty W1 _ _
 have hcs : S.Cs W2 (.slice sp s.own.length sc) 1 s.own.length (S.en eI s.own) := (ho.below hBW2).cs hEI (by decide) oneI
 have hsz2 : W1.heap.size <= W2.heap.size := hB2.size
 have k02 : RB W2 W.heap.size (.slice sp s.own.length sc) s := (k0.below hB1).below hB2
 have k12 : RB W2 W0.heap.size (.slice none 0 0) z0 := k1.below hB2
 obtain ⟨x0, x1, x2⟩ := k02.cells
 have x1b := (k0.below hB1).cells.2.1
 have HH := hid (And.intro hBW2 (And.intro k02 (And.intro k12 (And.intro hs0 hs1))))
 have HK := hid (And.intro hks hg)
 clear hB0 hB1 hB2 hBW1 hBW2 k0 k1 k02 k12 hs0 hs1 hks hg ho
 unfold rsc
 go_enter Tryz.func74, Tryz.ntmps74
 go_upto_region 2 with (refine S.wpList_append_row W2 rfl _ _ 97 3 _ 1 8 Tryz.underlying97 infoI rfl (by decide) rfl W1.heap.size (.slice (some ⟨W1.heap.size, 0, none⟩) 0 0) 0 [] rfl hown _ s.own.length _ rfl hcs (by unfold S.room; omega) (by unfold maxLen; omega) hsz2 (fun v5 w5 hr1 hg1 => ?_); rw [Nat.zero_add, List.nil_append] at hr1; obtain ⟨p5, c5, hv5⟩ := q_sl hr1; subst hv5; have HG := hid (And.intro hr1 hg1); clear hr1 hg1)
 have oR := HG.out.1
 have k5 : Below W1.heap.size W2 w5 := HG.out.2.below (fun g hg => q_ge hown g hg) hsz2
 have hsz5 : W1.heap.size <= w5.heap.size := Nat.le_trans hsz2 k5.size
 have hB5 : Below W.heap.size W w5 := HH.out.1.trans (k5.mono (by have := HH.out.2.2.2.1; have := HH.out.2.2.2.2; omega))
 have hlt0 : W.heap.size < W1.heap.size /\ W0.heap.size < W1.heap.size /\ W.heap.size ≠ W0.heap.size := by have := HH.out.2.2.2.1; have := HH.out.2.2.2.2; omega
 have m0 : RB w5 W.heap.size (.slice sp s.own.length sc) s := (k5.block _ hlt0.1).trans HH.out.2.1
 have m1 : RB w5 W0.heap.size (.slice none 0 0) z0 := (k5.block _ hlt0.2.1).trans HH.out.2.2.1
 have hkcs : S.Cs w5 (.slice kp kn kc) 1 ks.length (S.en eI ks) := HK.out.1.below hB5
 obtain ⟨x0, x1, x2⟩ := m0.cells
 have HM := hid (And.intro m0 (And.intro m1 (And.intro hB5 hlt0)))
 clear k5 hB5 hlt0 m0 m1 hW0 hW1 hW2 hcs hown
 go_upto_region 3 with (refine S.wpList_append_row w5 rfl _ _ 97 3 _ 1 8 Tryz.underlying97 infoI rfl (by decide) rfl W1.heap.size (.slice p5 s.own.length c5) s.own.length (S.en eI s.own) rfl oR _ ks.length _ rfl hkcs (by unfold S.room; omega) (by unfold maxLen; omega) hsz5 (fun v6 w6 hr1 hg1 => ?_); have k6 : Below W1.heap.size w5 w6 := hg1.below (fun g hg => q_ge oR g hg) hsz5; have n0 : RB w6 W.heap.size (.slice sp s.own.length sc) s := (k6.block _ HM.out.2.2.2.1).trans HM.out.1; have n1 := n0.cells.2.1; have n2 := n0.fro 1; obtain ⟨p6, c6, hv6⟩ := q_sl hr1; subst hv6; have HG6 := hid (And.intro hr1 (And.intro k6 n0)); clear hr1 hg1 k6 n0)
 obtain ⟨w7, hw7⟩ : ∃ w7, w6.setCell ⟨W.heap.size, 1, none⟩ (.slice p6 (s.own.length + ks.length) c6) = w7 := ⟨_, rfl⟩
 have m0 : RB w7 W.heap.size (.slice p6 (s.own.length + ks.length) c6) { s with own := s.own ++ ks } := by rw [<- hw7]; exact S.setCell_heap w6 _ 1 _ 99 _ HG6.out.2.2
 have ho7 : ∀ i, i ≠ W.heap.size -> w7.heap[i]? = w6.heap[i]? := fun i hi => by rw [<- hw7]; exact S.setCell_other _ _ _ _ _ hi
 have hs7 : w7.heap.size = w6.heap.size := by rw [<- hw7]; exact S.setCell_size _ _ _
 have hot : w7.os = w6.os /\ w7.tape = w6.tape /\ w7.output = w6.output := by rw [<- hw7]; exact ⟨rfl, rfl, rfl⟩
 have m1 : RB w7 W0.heap.size (.slice none 0 0) z0 := (ho7 _ (Ne.symm HM.out.2.2.2.2.2)).trans ((HG6.out.2.1.block _ HM.out.2.2.2.2.1).trans HM.out.2.1)
 have oR7 : w7.ownsRow W1.heap.size 3 1 (.slice p6 (s.own.length + ks.length) c6) (s.own.length + ks.length) (S.en eI (s.own ++ ks)) := by rw [S.en_append]; exact S.own_kept HG6.out.1 fun g hg _ => ho7 g (by have := q_ge HG6.out.1 g hg; have := HM.out.2.2.2.1; omega)
 have hB7 : Below W.heap.size W w7 := ⟨hot.1.trans (HG6.out.2.1.os.trans HM.out.2.2.1.os), hot.2.1.trans (HG6.out.2.1.tape.trans HM.out.2.2.1.tape), hot.2.2.trans (HG6.out.2.1.output.trans HM.out.2.2.1.output), by rw [hs7]; exact Nat.le_trans HM.out.2.2.1.size HG6.out.2.1.size, fun i hi => (ho7 i (by omega)).trans ((HG6.out.2.1.block i (by have := HM.out.2.2.2.1; omega)).trans (HM.out.2.2.1.block i hi))⟩
 have HT : Y.Hd (RB (w7.setRow W0.heap.size (rsc (.slice p6 (s.own.length + ks.length) c6) { s with own := s.own ++ ks }).toArray) W0.heap.size (.slice p6 (s.own.length + ks.length) c6) { s with own := s.own ++ ks } /\ OV (w7.setRow W0.heap.size (rsc (.slice p6 (s.own.length + ks.length) c6) { s with own := s.own ++ ks }).toArray) g (.slice p6 (s.own.length + ks.length) c6) (s.own ++ ks) /\ Below W.heap.size W (w7.setRow W0.heap.size (rsc (.slice p6 (s.own.length + ks.length) c6) { s with own := s.own ++ ks }).toArray)) :=
  ⟨setRow_heap w7 W0.heap.size _ _ _ _ m1, QV.of_own hEI (S.own_kept oR7 fun g hg _ => setRow_other w7 W0.heap.size g _ (by have := q_ge oR7 g hg; have := HM.out.2.2.2.2.1; omega)) (by rw [List.length_append]) (by have := HK.out.2; have := HM.out.2.2.2.1; omega), ⟨hB7.os, hB7.tape, hB7.output, by rw [size_setRow]; exact hB7.size, fun i hi => (setRow_other w7 W0.heap.size i _ (by have := HH.out.2.2.2.1; omega)).trans (hB7.block i hi)⟩⟩
 obtain ⟨x0, x1, x2⟩ := m0.cells
 unfold rsc at HT
 simp only at HT x0 x1 x2
 have HM1 := hid m1
 rw [hw7]
 clear hw7 m0 ho7 hs7 hot oR7 hB7
 have hst := HM1.out
 go_wp2_with (refine wpList_store_row rfl 99 _ _ rfl W0.heap.size _ rfl rfl 99 _ hst (by exact sizeR) (by rfl) (by simp [Value.oneCell']) ?_)
 refine bodyPost_ret (rs_end 4 rfl rfl ⟨_, _, _, rfl⟩ HT.out.1) rfl ?_
 exact ⟨_, rfl, HT.out.2.1, HT.out.2.2⟩
theorem less_any (s : Rs) (sv : Value) (n : Nat) (h0 : 0 < n) (hn : n <= s.own.length) (g : Nat) (W : World) (hg : g < W.heap.size) (hl : s.own.length <= 1000) (ho : OV W g sv s.own) :
  Calls Tryz.prog 75 #[.agg (rsc sv s).toArray, .int .i64 (n : Int)] W fun e w' => ∃ v', e = .returned (.agg (rsc v' { s with own := s.own.take (s.own.length - n) }).toArray) /\ OV w' g v' (s.own.take (s.own.length - n)) /\ Below W.heap.size W w' := by
 rcases ho with ⟨_, e⟩ | ⟨b, c, rfl, hc, hbg, hbl, hcl⟩
 ·rw [e] at hn; simp at hn; omega
 obtain ⟨m, hm⟩ : ∃ m, s.own.length - n = m := ⟨_, rfl⟩
 have hmm : m <= s.own.length := by omega
 have htl : (s.own.take m).length = m := by rw [List.length_take]; omega
 have hov : OV W g (.slice (some ⟨b, 0, none⟩) m c) (s.own.take m) := .inr ⟨b, c, by rw [htl], by omega, hbg, hbl, fun i a j u hi hj => hcl i a j u (by rw [List.getElem?_take] at hi; split at hi; exact hi; cases hi) hj⟩
 obtain ⟨W0, hW0, hB0, hs0, k0⟩ := box_r s (.slice (some ⟨b, 0, none⟩) s.own.length c) W
 obtain ⟨W1, hW1, hB1, hs1, k1⟩ := box_r z0 (.slice none 0 0) W0
 unfold z0 at hW1
 simp only at hW1
 obtain ⟨W2, hW2⟩ : ∃ W2, W1.alloc (.cells #[] 3) = W2 := ⟨_, rfl⟩
 have hB2 : Below W1.heap.size W1 W2 := by rw [<- hW2]; exact (Below.refl _ _).alloc (Nat.le_refl _) _
 have hBW1 : Below W.heap.size W W1 := hB0.trans (hB1.mono (by omega))
 have hBW2 : Below W.heap.size W W2 := hBW1.trans (hB2.mono (by omega))
 have hown : W2.ownsRow W1.heap.size 3 1 (.slice (some ⟨W1.heap.size, 0, none⟩) 0 0) 0 [] := by rw [<- hW2]; exact S.own_empty W1 _ _
 have hcs : S.Cs W2 (.slice (some ⟨b, 0, none⟩) m c) 1 m (S.en eI (s.own.take m)) := by have := (hov.below hBW2).cs hEI (by decide) oneI; rw [htl] at this; exact this
 have hsz2 : W1.heap.size <= W2.heap.size := hB2.size
 have k02 : RB W2 W.heap.size (.slice (some ⟨b, 0, none⟩) s.own.length c) s := (k0.below hB1).below hB2
 have k12 : RB W2 W0.heap.size (.slice none 0 0) z0 := k1.below hB2
 obtain ⟨x0, x1, x2⟩ := k02.cells
 have HH := hid (And.intro hBW2 (And.intro k02 (And.intro k12 (And.intro hs0 hs1))))
 have HK := hid (And.intro hg (And.intro hm htl))
 have ew : wrap64 ((s.own.length : Int) - (n : Int)) = (m : Int) := by rw [Y.w_in _ (by omega)]; omega
 have ew2 : (s.own.length : Int) - (n : Int) = (m : Int) := by omega
 have hm1 : (m : Int) <= (c : Int) := by omega
 have hm2 : m <= c := by omega
 have hm3 : m <= 1000 := by omega
 have HL : Y.Hd (W.heap.size < W1.heap.size /\ W0.heap.size < W1.heap.size /\ W.heap.size ≠ W0.heap.size) := ⟨by omega⟩
 clear hB0 hB1 hB2 hBW1 hBW2 k0 k1 k02 k12 hs0 hs1 hg hov hcl hm htl hmm hbg hbl hc
 rw [HK.out.2.1]
 unfold rsc
 go_enter Tryz.func75, Tryz.ntmps75
 go_upto_region 2 with (refine S.wpList_append_row W2 rfl _ _ 97 3 _ 1 8 Tryz.underlying97 infoI rfl (by decide) rfl W1.heap.size (.slice (some ⟨W1.heap.size, 0, none⟩) 0 0) 0 [] rfl hown _ m _ rfl hcs (by unfold S.room; omega) (by unfold maxLen; omega) hsz2 (fun v6 w6 hr1 hg1 => ?_); rw [Nat.zero_add, List.nil_append] at hr1; have k6 : Below W1.heap.size W2 w6 := hg1.below (fun g hg => q_ge hown g hg) hsz2; have n0 : RB w6 W.heap.size (.slice (some ⟨b, 0, none⟩) s.own.length c) s := (k6.block _ HL.out.1).trans HH.out.2.1; have n1 := n0.cells.2.1; have n2 := n0.fro 1; obtain ⟨p6, c6, hv6⟩ := q_sl hr1; subst hv6; have HG6 := hid (And.intro hr1 (And.intro k6 n0)); clear hr1 hg1 k6 n0)
 obtain ⟨w7, hw7⟩ : ∃ w7, w6.setCell ⟨W.heap.size, 1, none⟩ (.slice p6 m c6) = w7 := ⟨_, rfl⟩
 have m0 : RB w7 W.heap.size (.slice p6 m c6) { s with own := s.own.take m } := by rw [<- hw7]; exact S.setCell_heap w6 _ 1 _ 99 _ HG6.out.2.2
 have ho7 : ∀ i, i ≠ W.heap.size -> w7.heap[i]? = w6.heap[i]? := fun i hi => by rw [<- hw7]; exact S.setCell_other _ _ _ _ _ hi
 have hs7 : w7.heap.size = w6.heap.size := by rw [<- hw7]; exact S.setCell_size _ _ _
 have hot : w7.os = w6.os /\ w7.tape = w6.tape /\ w7.output = w6.output := by rw [<- hw7]; exact ⟨rfl, rfl, rfl⟩
 have hst : RB w7 W0.heap.size (.slice none 0 0) z0 := (ho7 _ (Ne.symm HL.out.2.2)).trans ((HG6.out.2.1.block _ HL.out.2.1).trans HH.out.2.2.1)
 have oR7 : w7.ownsRow W1.heap.size 3 1 (.slice p6 m c6) m (S.en eI (s.own.take m)) := S.own_kept HG6.out.1 fun g hg _ => ho7 g (by have := q_ge HG6.out.1 g hg; have := HL.out.1; omega)
 have hB7 : Below W.heap.size W w7 := ⟨hot.1.trans (HG6.out.2.1.os.trans HH.out.1.os), hot.2.1.trans (HG6.out.2.1.tape.trans HH.out.1.tape), hot.2.2.trans (HG6.out.2.1.output.trans HH.out.1.output), by rw [hs7]; exact Nat.le_trans HH.out.1.size HG6.out.2.1.size, fun i hi => (ho7 i (by omega)).trans ((HG6.out.2.1.block i (by have := HL.out.1; omega)).trans (HH.out.1.block i hi))⟩
 have HT : Y.Hd (RB (w7.setRow W0.heap.size (rsc (.slice p6 m c6) { s with own := s.own.take m }).toArray) W0.heap.size (.slice p6 m c6) { s with own := s.own.take m } /\ OV (w7.setRow W0.heap.size (rsc (.slice p6 m c6) { s with own := s.own.take m }).toArray) g (.slice p6 m c6) (s.own.take m) /\ Below W.heap.size W (w7.setRow W0.heap.size (rsc (.slice p6 m c6) { s with own := s.own.take m }).toArray)) :=
  ⟨setRow_heap w7 W0.heap.size _ _ _ _ hst, QV.of_own hEI (S.own_kept oR7 fun g hg _ => setRow_other w7 W0.heap.size g _ (by have := q_ge oR7 g hg; have := HL.out.2.1; omega)) HK.out.2.2.symm (by have := HK.out.1; have := HL.out.1; omega), ⟨hB7.os, hB7.tape, hB7.output, by rw [size_setRow]; exact hB7.size, fun i hi => (setRow_other w7 W0.heap.size i _ (by have := HH.out.2.2.2.1; omega)).trans (hB7.block i hi)⟩⟩
 obtain ⟨x0, x1, x2⟩ := m0.cells
 unfold rsc at HT
 simp only at HT x0 x1 x2
 rw [hw7]
 clear hw7 m0 ho7 hs7 hot oR7 hB7 ew ew2 hm1 hm2
 go_wp2_with (refine wpList_store_row rfl 99 _ _ rfl W0.heap.size _ rfl rfl 99 _ hst (by exact sizeR) (by rfl) (by simp [Value.oneCell']) ?_)
 refine bodyPost_ret (rs_end 4 rfl rfl ⟨_, _, _, rfl⟩ HT.out.1) rfl ?_
 exact ⟨_, rfl, HT.out.2.1, HT.out.2.2⟩
theorem bdn {B : Nat} {A C : World} (h : Below B A C) (q : Nat) : Below B A (C.drewN q) := ⟨h.os, h.tape, h.output, h.size, h.block⟩
theorem alike_any (a b : Rs) (va vb : Value) (g : Nat) (W : World) (ha : OV W g va a.own) (hb : OV W g vb b.own) (hl : a.own.length <= 1000) :
  Calls Tryz.prog 87 #[.agg (rsc va a).toArray, .agg (rsc vb b).toArray] W fun e w' => e = .returned (.bool (ralike a b)) /\ Below W.heap.size W w' := by
 obtain ⟨pa, ca, rfl, _, hca⟩ := id ha.ex
 obtain ⟨pb, cb, rfl, _, hcb⟩ := id hb.ex
 obtain ⟨W0, hW0, hB0, hs0, k0⟩ := box_r a (.slice pa a.own.length ca) W
 obtain ⟨W1, hW1, hB1, hs1, k1⟩ := box_r b (.slice pb b.own.length cb) W0
 have hB : Below W.heap.size W W1 := hB0.trans (hB1.mono (by omega))
 obtain ⟨x0, x1, x2⟩ := (k0.below hB1).cells
 obtain ⟨y0, y1, y2⟩ := k1.cells
 have HB := hid hB
 have HC := hid (And.intro hca hcb)
 have HK := hid (And.intro (k0.below hB1) k1)
 clear hB0 hB1 hs0 hs1 k0 k1 hB ha hb hca hcb
 have HR : Y.Hd (ralike a b = (a.h == b.h && decide (a.own = b.own))) := ⟨rfl⟩
 generalize ralike a b = R at *
 unfold rsc
 by_cases h1 : a.h = b.h
 ·by_cases h2 : a.own.length = b.own.length
  ·have d1 : (a.h != b.h) = false := by simpa using h1
   have d2 : ((a.own.length : Int) != (b.own.length : Int)) = false := by simp [h2]
   have H2 := hid h2
   have H1 := hid h1
   clear h1 h2
   go_enter Tryz.func87, Tryz.ntmps87
   go_wp2
   clear hW0 hW1 x0 x1 x2 y0 y1 y2
   go_loopw [5] (fun ix wr => ∃ k : Nat, k <= a.own.length /\ ix = .int .i64 (k : Int) /\ Below W1.heap.size W1 wr /\ a.own.take k = b.own.take k) (fun ix _ => a.own.length - (intOf ix).toNat)
   case atStart => exact ⟨0, by omega, rfl, Below.refl _ _, rfl⟩
   case round =>
    obtain ⟨k, hk, rfl, hw, htk⟩ := hrel
    obtain ⟨x0, x1, x2⟩ := (HK.out.1.below hw).cells
    obtain ⟨y0, y1, y2⟩ := (HK.out.2.below hw).cells
    by_cases hlt : k < a.own.length
    ·have i1 : (k : Int) < a.own.length := by omega
     have hlt2 : k < b.own.length := by have := H2.out; omega
     have i2 : (k : Int) < b.own.length := by omega
     have ea := List.getElem?_eq_getElem hlt
     have eb := List.getElem?_eq_getElem hlt2
     have HN : Y.Hd (a.own.take (k + 1) = b.own.take (k + 1) ↔ a.own[k] = b.own[k]) := ⟨by rw [List.take_add_one, List.take_add_one, ea, eb, htk]; exact ⟨fun e => by have := List.append_cancel_left e; simpa using this, fun e => by rw [e]⟩⟩
     have HN2 : Y.Hd (a.own = b.own -> a.own[k] = b.own[k]) := ⟨fun e => by have := congrArg (fun l => l[k]?) e; rw [ea, eb] at this; simpa using this⟩
     generalize a.own[k] = u at *
     generalize b.own[k] = v at *
     obtain ⟨ba, rfl, _, hla, hxa⟩ := HC.out.1 k u ea
     obtain ⟨bb, rfl, _, hlb, hxb⟩ := HC.out.2 k v eb
     have q1 : wr.cell? ⟨ba, k, none⟩ = some (.int .i64 u) := by have := hxa 0 _ rfl; rw [Nat.mul_one, Nat.add_zero] at this; exact (World.cell?_of_block (w := W) (a := ⟨ba, k, none⟩) ((hw.block ba (Nat.lt_of_lt_of_le hla HB.out.size)).trans (HB.out.block ba hla))).trans this
     have q2 : wr.cell? ⟨bb, k, none⟩ = some (.int .i64 v) := by have := hxb 0 _ rfl; rw [Nat.mul_one, Nat.add_zero] at this; exact (World.cell?_of_block (w := W) (a := ⟨bb, k, none⟩) ((hw.block bb (Nat.lt_of_lt_of_le hlb HB.out.size)).trans (HB.out.block bb hlb))).trans this
     have HW := hid hw
     clear hxa hxb ea eb htk hw hla hlb
     by_cases huv : u = v
     ·have d3 : (u != v) = false := by simpa using huv
      have HE := hid huv
      clear huv
      go_wp2_with fail
      go_quiet (fail)
      go_wp2
      go_roundw
      case rel =>
       first
        | exact ⟨k + 1, by omega, by go_num, bdn HW.out _, HN.out.2 HE.out⟩
        | ((repeat apply Exists.intro); refine ⟨⟨k + 1, by omega, ?_, bdn HW.out _, HN.out.2 HE.out⟩, rfl⟩; go_num)
      case measure => simp [intOf]; omega
     ·have d3 : (u != v) = true := by simpa using huv
      go_wp2_with fail
      go_quiet (fail)
      go_wp2
      go_ret
      refine ⟨?_, HB.out.trans ((bdn HW.out _).mono HB.out.size)⟩
      rw [HR.out, decide_eq_false (fun e => huv (HN2.out e))]
      simp
    ·have i1 : ¬ (k : Int) < a.own.length := by omega
     have HE : Y.Hd (a.own = b.own) := ⟨by have := H2.out; rw [List.take_of_length_le (by omega), List.take_of_length_le (by omega)] at htk; exact htk⟩
     clear htk
     go_wp2
     go_ret
     refine ⟨?_, HB.out.trans (hw.mono HB.out.size)⟩
     rw [HR.out, decide_eq_true HE.out, H1.out]
     simp
  ·have d1 : (a.h != b.h) = false := by simpa using h1
   have d2 : ((a.own.length : Int) != (b.own.length : Int)) = true := by simp; omega
   have H2 := hid h2
   clear h1 h2
   go_enter Tryz.func87, Tryz.ntmps87
   go_wp2
   go_ret
   refine ⟨?_, HB.out⟩
   rw [HR.out, decide_eq_false (fun e => H2.out (by rw [e]))]
   simp
 ·have d1 : (a.h != b.h) = true := by simpa using h1
  have H1 := hid h1
  clear h1
  go_enter Tryz.func87, Tryz.ntmps87
  go_wp2
  go_ret
  refine ⟨?_, HB.out⟩
  rw [HR.out, show (a.h == b.h) = false by simpa using H1.out]
  rfl
end Go.Proofs.YtlilefhmohkfkaaGreatDoor.E
