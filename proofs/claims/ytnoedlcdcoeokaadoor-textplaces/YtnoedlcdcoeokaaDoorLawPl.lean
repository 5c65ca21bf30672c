import Derived.Test.YtnoedlcdcoeokaaDoorApart
/-! TextPlaces' walk. -/
namespace Go.Proofs.YtnoedlcdcoeokaaDoor
open Go.RowKit
set_option linter.unusedVariables false

def il (f : Nat → Int) (m : Nat) : List Value := (List.range m).map fun j => Value.int .i64 (f j)
theorem il_get (f : Nat → Int) (m j : Nat) (h : j < m) : (il f m)[j]? = some (.int .i64 (f j)) := by simp [il, h]
theorem il_len (f : Nat → Int) (m : Nat) : (il f m).length = m := by simp [il]
/-- Where a slice of integers reads. -/
def Src (w : World) (p : Option Addr) (m c : Nat) (f : Nat → Int) : Prop := (p = none ∧ m = 0 ∧ c = 0) ∨ ∃ ad, p = some ad ∧ ∀ j, j < m → w.cell? (ad.add j) = some (.int .i64 (f j))

theorem wp_append_ints (w : World) {o : Oper} {a : Act} {K : Act → World → Prop} {Q : Exit → Act → World → Prop} (s x : Operand)
    (ho : o.op = .call { callee := .builtin .append, args := #[s, x], argTypes := #[23, 23] }) (base : Nat) (v : Value) (n : Nat) (xs : List Value) (hs : a.eval s = v) (hown : w.ownsRow base 3 1 v n xs)
    (p : Option Addr) (m c : Nat) (f : Nat → Int) (hx : a.eval x = .slice p m c) (hp : Src w p m c f) (hb : n + m ≤ 1000) (hbase : base ≤ w.heap.size)
    (h : ∀ v' w', w'.ownsRow base 3 1 v' (n + m) (xs ++ il f m) → w.grownBy w' v.ownBlock → K (a.put o.dst v') w') : o.wp Tryd.prog a w K Q := by
  obtain ⟨i0, hi, hz0, hz1, hz2⟩ := info_parts info3
  rcases hp with ⟨rfl, rfl, rfl⟩ | ⟨ad, rfl, hc⟩
  · have hr := run_append_owned_none (P := Tryd.prog) w base 23 o.type 3 i0 1 Tryd.underlying23 hi v n xs hown
    unfold Oper.wp execOp
    simp only [ho, resolve, invoke, builtin, Sem.run_bind, Sem.run_pure, Result.andThen_ok, List.map_toArray, List.map_cons, List.map_nil, hs, hx, hr]
    exact h v w (by simpa [il] using hown) ⟨rfl, rfl, rfl, Nat.le_refl _, fun _ _ _ => rfl⟩
  · exact wp_append_own2 w s x 23 ho base 3 i0 (.int .i64 0) 1 8 Tryd.underlying23 hi hz0 hz1 hz2 rfl (by decide) v n xs hs hown ad m c (il f m) hx (by simp [il]) (fun j u hj => by
      have hlt : j < m := by
        by_cases h : j < m
        · exact h
        · rw [List.getElem?_eq_none (by simp [il]; omega)] at hj; cases hj
      rw [il_get f m j hlt] at hj
      rw [hc j hlt]; exact hj) (by intro u hu; simp [il] at hu; obtain ⟨y, _, rfl⟩ := hu; rfl) (by unfold maxLen; omega) (by omega) hbase (fun v' w' h1 h2 _ => h v' w' h1 h2)
theorem wpList_append_ints (w : World) {ops : Array Oper} {rest : List Oper} {o : Oper} {a : Act} {Q : Exit → Act → World → Prop} (hgd : o.guard = none) (s x : Operand)
    (ho : o.op = .call { callee := .builtin .append, args := #[s, x], argTypes := #[23, 23] }) (base : Nat) (v : Value) (n : Nat) (xs : List Value) (hs : a.eval s = v) (hown : w.ownsRow base 3 1 v n xs)
    (p : Option Addr) (m c : Nat) (f : Nat → Int) (hx : a.eval x = .slice p m c) (hp : Src w p m c f) (hb : n + m ≤ 1000) (hbase : base ≤ w.heap.size)
    (h : ∀ v' w', w'.ownsRow base 3 1 v' (n + m) (xs ++ il f m) → w.grownBy w' v.ownBlock → wpList Tryd.prog ops Q rest (a.put o.dst v') w') : wpList Tryd.prog ops Q (o :: rest) a w :=
  wpList_plain hgd fun _ hK => wp_append_ints w s x ho base v n xs hs hown p m c f hx hp hb hbase fun v' w' h2 h3 => hK _ _ (h v' w' h2 h3)
theorem own3_kept {W W' : World} {B : Nat} {v : Value} {n : Nat} {xs : List Value} (h : W.ownsRow B 3 1 v n xs) (k : KeepsT W W') : W'.ownsRow B 3 1 v n xs := by
  refine ⟨h.1, ?_⟩
  rcases h.2 with h | ⟨g, cap, cur, h1, h2, h3, h4⟩
  · exact .inl h
  · exact .inr ⟨g, cap, cur, h1, h2, k g cur 3 _ h3 (by decide) (by decide), h4⟩

theorem below_cell {w W : World} (h : Below w.heap.size w W) {a : Addr} {v : Value} (hc : w.cell? a = some v) : W.cell? a = some v := by
  rw [h.cell (World.block_lt_of_cell? w a hc)]; exact hc
def K3 (W W' : World) : Prop := ∀ (b : Nat) (cs : Array Value) (t : TypeId) (fr : Nat × Nat), W.heap[b]? = some (.cells cs t fr) → t ≠ 3 → W'.heap[b]? = some (.cells cs t fr)
theorem own_k3 {W W' : World} {B : Nat} {e : TypeId} {v : Value} {n : Nat} {xs : List Value} (h : W.ownsRow B e 1 v n xs) (k : K3 W W') (he : e ≠ 3) : W'.ownsRow B e 1 v n xs := by
  refine ⟨h.1, ?_⟩
  rcases h.2 with h | ⟨g, cap, cur, h1, h2, h3, h4⟩
  · exact .inl h
  · exact .inr ⟨g, cap, cur, h1, h2, k g cur e _ h3 he, h4⟩
theorem k3_set {W : World} {B gR n cap : Nat} {xs : List Value} (h : W.ownsRow B 3 1 (.slice (some ⟨gR, 0, none⟩) n cap) n xs) (j : Nat) (u : Value) : K3 W (W.setCell ⟨gR, j, none⟩ u) := by
  intro b cs t fr hb ht
  rw [heap_setCell_other W ⟨gR, j, none⟩ b u ?_]
  · exact hb
  · intro e
    rcases h.2 with ⟨h', _⟩ | ⟨g, c', cur, h', _, hg, _⟩
    · simp at h'
    · simp only [Value.slice.injEq, Option.some.injEq, Addr.mk.injEq, and_true, true_and] at h'
      obtain ⟨rfl, rfl⟩ := h'
      simp only at e
      subst e
      rw [hg] at hb
      simp at hb
      exact ht hb.2.1.symm
structure Pl (w W : World) (bk gR capR n : Nat) (xs : List Value) (m : Nat) (ls ws : List Value) (vL vW : Value) : Prop where
  below : Below w.heap.size w W
  sh : Sh w.heap.size bk W m ls ws vL vW
  room : W.ownsRow w.heap.size 3 1 (.slice (some ⟨gR, 0, none⟩) (n + 2) capR) (n + 2) xs
theorem Pl.next {w W W' : World} {bk gR capR n : Nat} {xs : List Value} {m : Nat} {ls ws : List Value} {vL vW : Value} (h : Pl w W bk gR capR n xs m ls ws vL vW) (b : Below W.heap.size W W') : Pl w W' bk gR capR n xs m ls ws vL vW :=
  ⟨h.below.trans (b.mono h.below.size), ⟨(b.block bk (Array.getElem?_eq_some_iff.1 h.sh.blk).1).trans h.sh.blk, own_below h.sh.L b, own_below h.sh.R b, h.sh.ne⟩, own_below h.room b⟩
/-- The room when k of its offsets have been written over. -/
def rm (S : ByteArray) (f : Nat → Int) (n k : Nat) : Nat → Int := fun j => if j < n then (if j < k then (S.size : Int) - j else f j) else if j = n then 77 else 78
theorem rm_zero (S : ByteArray) (f : Nat → Int) (n : Nat) : il f n ++ il (fun j => if j = 0 then 77 else 78) 2 = il (rm S f n 0) (n + 2) := by
  apply List.ext_getElem?
  intro j
  by_cases h1 : j < n
  · rw [List.getElem?_append_left (by simp [il_len]; exact h1), il_get _ _ _ h1, il_get _ _ _ (by omega)]
    simp [rm, h1]
  · by_cases h2 : j < n + 2
    · rw [List.getElem?_append_right (by simp [il_len]; omega), il_len, il_get _ _ _ (by omega), il_get _ _ _ h2]
      simp [rm, h1]
      by_cases h3 : j = n
      · simp [h3]
      · simp [h3]; intro h; omega
    · rw [List.getElem?_eq_none (by simp [il_len]; omega), List.getElem?_eq_none (by simp [il_len]; omega)]
theorem rm_succ (S : ByteArray) (f : Nat → Int) (n k : Nat) (hk : k < n) : (il (rm S f n k) (n + 2)).set k (.int .i64 ((S.size : Int) - k)) = il (rm S f n (k + 1)) (n + 2) := by
  apply List.ext_getElem?
  intro j
  rw [List.getElem?_set]
  by_cases h2 : j < n + 2
  · rw [il_get _ _ _ h2, il_get _ _ _ h2, il_len]
    by_cases e : k = j
    · subst e
      rw [if_pos rfl, if_pos h2]
      simp [rm, hk]
    · rw [if_neg e]
      have : (j < k + 1) = (j < k) := by apply propext; omega
      simp [rm, this]
  · rw [if_neg (by omega), List.getElem?_eq_none (by simp [il_len]; omega), List.getElem?_eq_none (by simp [il_len]; omega)]
theorem Pl.cell {w W : World} {bk gR capR n : Nat} {F : Nat → Int} {m : Nat} {ls ws : List Value} {vL vW : Value} (h : Pl w W bk gR capR n (il F (n + 2)) m ls ws vL vW) (j : Nat) (hj : j < n + 2) : W.cell? ⟨gR, j, none⟩ = some (.int .i64 (F j)) := by
  rw [h.room.cellAt j (by omega), il_get _ _ _ hj]
theorem Pl.store {w W : World} {bk gR capR n : Nat} {S : ByteArray} {f : Nat → Int} {m k : Nat} {ls ws : List Value} {vL vW : Value} (h : Pl w W bk gR capR n (il (rm S f n k) (n + 2)) m ls ws vL vW) (hk : k < n) :
    Pl w (W.setCell ⟨gR, k, none⟩ (.int .i64 ((S.size : Int) - k))) bk gR capR n (il (rm S f n (k + 1)) (n + 2)) m ls ws vL vW := by
  have K := k3_set h.room k (.int .i64 ((S.size : Int) - k))
  have hst := h.room.stored k (.int .i64 ((S.size : Int) - k))
  rw [rm_succ S f n k hk] at hst
  refine ⟨h.below.setCell (h.room.lt gR rfl).1 _, ⟨K bk _ _ _ h.sh.blk (by decide), own_k3 h.sh.L K (by decide), own_k3 h.sh.R K (by decide), h.sh.ne⟩, hst.1⟩
theorem Cpy.k3 {W W' : World} {p : Option Addr} {n : Nat} {g : Nat → Int} (h : Cpy W p n g) (k : K3 W W') : Cpy W' p n g := by
  rcases h with h | ⟨b, cur, e, hb, hc⟩
  · exact .inl h
  · exact .inr ⟨b, cur, e, k b cur 27 _ hb (by decide), hc⟩
theorem Cpy.next {W W' : World} {p : Option Addr} {n : Nat} {g : Nat → Int} (h : Cpy W p n g) (b : Below W.heap.size W W') : Cpy W' p n g := h.kept (KeepsT.grown0 (grown_of_below b))
theorem row_next {W W' : World} {b : Nat} {g : Nat → Int} {n : Nat} (h : IRow W b 27 g n) (k : Below W.heap.size W W') : IRow W' b 27 g n := (KeepsT.grown0 (grown_of_below k)).row h (by decide) (by decide)
theorem Pl.keep {w W W' : World} {bk gR capR n : Nat} {xs : List Value} {m m' : Nat} {ls ws ls' ws' : List Value} {vL vW vL' vW' : Value} (h : Pl w W bk gR capR n xs m ls ws vL vW) (b : Below w.heap.size w W') (k : KeepsT W W') (s : Sh w.heap.size bk W' m' ls' ws' vL' vW') : Pl w W' bk gR capR n xs m' ls' ws' vL' vW' :=
  ⟨b, s, own3_kept h.room k⟩
theorem Pl.args {w W : World} {bk gR capR n : Nat} {F : Nat → Int} {m : Nat} {ls ws : List Value} {vL vW : Value} (h : Pl w W bk gR capR n (il F (n + 2)) m ls ws vL vW) :
    n = 0 ∨ ∃ x, (some ⟨gR, 0, none⟩ : Option Addr) = some x ∧ x.block < W.heap.size ∧ ∀ j, j < n → W.cell? (x.add j) = some (.int .i64 (F j)) :=
  .inr ⟨_, rfl, (h.room.lt gR rfl).2, fun j hj => by
    have := h.cell j (by omega)
    by_cases h0 : j = 0
    · subst h0; simpa [Addr.add] using this
    · simpa [Addr.add, h0] using this⟩

theorem ap_of {w W : World} {bk gR capR n : Nat} {xs : List Value} {bA bB bC : Nat} {pA pB pC : Option Addr} {cA cB cC : Nat} {vL vW : Value} {g1 g3 : Nat → Int}
    (P : Pl w W bk gR capR n xs 3 [.slice (some ⟨bA, 0, none⟩) n n, .slice (some ⟨bB, 0, none⟩) n n, .slice (some ⟨bC, 0, none⟩) n n] [.slice pA n cA, .slice pB n cB, .slice pC n cC] vL vW)
    (rA : IRow W bA 27 g1 (n * 2)) (rB : IRow W bB 27 g1 (n * 2)) (rC : IRow W bC 27 g3 (n * 2)) (cpA : Cpy W pA n g1) (cpB : Cpy W pB n g1) (cpC : Cpy W pC n g3) (hA : w.heap.size ≤ bA) (hAB : bA < bB) (hBC : bB < bC) :
    ∃ gL capL gW capW, Ap w.heap.size bk w W n (fun i => if i = 0 then bA else if i = 1 then bB else bC) (fun i => if i = 0 then g1 else if i = 1 then g1 else g3) gL capL gW capW (fun i => if i = 0 then pA else if i = 1 then pB else pC) (fun i => if i = 0 then cA else if i = 1 then cB else cC) := by
  have sL := P.sh.L
  have sR := P.sh.R
  have sb := P.sh.blk
  obtain ⟨gL, capL, rfl⟩ := own_pos sL (by omega)
  obtain ⟨gW, capW, rfl⟩ := own_pos sR (by omega)
  refine ⟨gL, capL, gW, capW, ⟨P.below, ?_, sb, ?_, ?_, ?_, ?_, ?_, ?_⟩⟩
  · intro i hi
    rcases (by omega : i = 0 ∨ i = 1 ∨ i = 2) with rfl | rfl | rfl <;> simp <;> omega
  · intro i hi
    have := sL.cellAt i (by omega)
    rcases (by omega : i = 0 ∨ i = 1 ∨ i = 2) with rfl | rfl | rfl <;> simpa using this
  · rcases sL.2 with ⟨h', _⟩ | ⟨g, c', cur, h', _, hg, _⟩
    · simp at h'
    · simp only [Value.slice.injEq, Option.some.injEq, Addr.mk.injEq, and_true, true_and] at h'
      obtain ⟨rfl, rfl⟩ := h'
      exact ⟨cur, hg⟩
  · intro i hi
    have := sR.cellAt i (by omega)
    rcases (by omega : i = 0 ∨ i = 1 ∨ i = 2) with rfl | rfl | rfl <;> simpa using this
  · intro i hi
    rcases (by omega : i = 0 ∨ i = 1 ∨ i = 2) with rfl | rfl | rfl <;> simp <;> assumption
  · intro i j hi hj hne
    rcases (by omega : i = 0 ∨ i = 1 ∨ i = 2) with rfl | rfl | rfl <;> rcases (by omega : j = 0 ∨ j = 1 ∨ j = 2) with rfl | rfl | rfl <;> simp <;> omega
  · intro i hi
    rcases (by omega : i = 0 ∨ i = 1 ∨ i = 2) with rfl | rfl | rfl <;> simp <;> apply Cpy.lst <;> assumption

set_option maxHeartbeats 4000000 in
set_option maxRecDepth 100000 in
theorem lawpl_any (a0 : ByteArray) (a1 : Option Addr) (len cap : Nat) (f : Nat → Int) (h0 : a0.size ≤ maxLen) (hlc : len ≤ cap) (hcm : cap ≤ maxLen) (w : World) (hT : Tabs w)
    (hsrc : (a1 = none ∧ len = 0 ∧ cap = 0) ∨ ∃ ad, a1 = some ad ∧ ∀ j, j < len → w.cell? (ad.add j) = some (.int .i64 (f j))) :
    Calls Tryd.prog 7 #[.string a0, .slice a1 len cap] w fun e w' => e = .returned (.bool true) ∧ Below w.heap.size w w' := by
  have hB := Below.refl w.heap.size w
  unfold maxLen at h0 hcm
  go_enter Tryd.func7, Tryd.ntmps7
  go_wp2_with (first
    | (go_at_call 9; refine (fixed_any _ (hT.below hB)).mono ?_; rintro e wn ⟨rfl, hb⟩; replace hB := hB.trans (hb.mono hB.size); clear hb)
    | (at_builtin; refine wpList_append_ints _ rfl _ _ rfl w.heap.size _ 0 [] rfl ?c1 a1 (min (↑len) 60 : Int).toNat cap f rfl ?c2 ?c3 ?c4 ?c5))
  case c1 => exact World.ownsRow_lit wn #[] 0 hB.size (by decide) rfl
  case c2 =>
    rcases hsrc with ⟨rfl, rfl, rfl⟩ | ⟨ad, rfl, hc⟩
    · exact .inl ⟨rfl, by omega, rfl⟩
    · refine .inr ⟨ad, rfl, fun j hj => ?_⟩
      exact below_cell (hB.alloc hB.size _) (hc j (by omega))
  case c3 => omega
  case c4 => simpa using Nat.le_trans hB.size (Nat.le_succ _)
  intro v' w' hv1 hg1
  have hn : (min (↑len) 60 : Int).toNat ≤ 60 := by omega
  have hnl : (min (↑len) 60 : Int).toNat ≤ len := by omega
  have hS3 : (a0.extract 0 (min (↑a0.size) 3000 : Int).toNat).size ≤ 3000 := by rw [ByteArray.size_extract]; omega
  have hbs := hB.size
  have hB1 : Below w.heap.size w w' := (hB.alloc hbs _).grown hg1 (by simp; omega) (fun j hj => by simp [Value.ownBlock] at hj; omega)
  have hsz1 : wn.heap.size + 1 ≤ w'.heap.size := by simpa using hg1.size
  have hsrc1 : ∀ W, Below w.heap.size w W → (min (↑len) 60 : Int).toNat = 0 ∨ ∃ ad, a1 = some ad ∧ ad.block < W.heap.size ∧ ∀ j, j < (min (↑len) 60 : Int).toNat → W.cell? (ad.add j) = some (.int .i64 (f j)) := by
    intro W hW
    by_cases h0 : (min (↑len) 60 : Int).toNat = 0
    · exact .inl h0
    · rcases hsrc with ⟨rfl, rfl, rfl⟩ | ⟨ad, rfl, hc⟩
      · exact absurd (by omega) h0
      · have hb0 : (ad.add 0).block < w.heap.size := World.block_lt_of_cell? w _ (hc 0 (by omega))
        refine .inr ⟨ad, rfl, ?_, fun j hj => below_cell hW (hc j (by omega))⟩
        have : (ad.add 0).block = ad.block := by simp [Addr.add]
        have := hW.size
        omega
  generalize a0.extract 0 (min (↑a0.size) 3000 : Int).toNat = S at *
  generalize (min (↑len) 60 : Int).toNat = n at *
  clear hg1 hB
  go_wp2_with (first
    | (at_builtin; refine wpList_append_ints _ rfl _ _ rfl w.heap.size _ n (il f n) rfl ?d1 (some ⟨w'.heap.size, 0, none⟩) 2 2 (fun j => if j = 0 then 77 else 78) rfl ?d2 ?d3 ?d4 ?d5))
  case d1 => exact (by simpa using hv1 : w'.ownsRow w.heap.size 3 1 v' n (il f n)).alloc _
  case d2 =>
    refine .inr ⟨_, rfl, fun j hj => ?_⟩
    match j, hj with
    | 0, _ => simp [Addr.add]
    | 1, _ => simp [Addr.add]
  case d3 => omega
  case d4 => simp; omega
  intro v2 w2 hv2 hg2
  have hB2 : Below w.heap.size w w2 := (hB1.alloc hB1.size _).grown hg2 (by simp; omega) (fun j hj => ((by simpa using hv1 : w'.ownsRow w.heap.size 3 1 v' n (il f n)).lt j hj).1)
  obtain ⟨gR, capR, rfl⟩ := own_pos hv2 (by omega)
  have hcapR : n + 2 ≤ capR := by
    rcases hv2.2 with ⟨h, _⟩ | ⟨g', cap', cur, h', _, _, h3, _⟩
    · simp at h
    · simp at h'; omega
  have hcapM : capR ≤ 2 ^ 63 - 1 := by
    rcases hv2.2 with ⟨h, _⟩ | ⟨g', cap', cur, h', _, _, h3, h4, _⟩
    · simp at h
    · simp at h'; unfold maxLen at h4; omega
  have P3 : Pl w (w2.alloc (.cells #[.slice none 0 0, .slice none 0 0] 42)) w2.heap.size gR capR n (il (rm S f n 0) (n + 2)) 0 [] [] (.slice none 0 0) (.slice none 0 0) :=
    ⟨hB2.alloc hB2.size _, ⟨heap_alloc_new w2 _, World.ownsRow_nil _ _ _ _, World.ownsRow_nil _ _ _ _, by intro g hg; cases hg⟩, by rw [← rm_zero S f n]; exact hv2.alloc _⟩
  have hbk : w.heap.size ≤ w2.heap.size := hB2.size
  clear hg2 hv1 hB1 hsz1 hbs hv2 hB2 hsrc
  have hnR : (n : Int) ≤ (capR : Int) := by omega
  generalize hbkE : w2.heap.size = bk at *
  go_wp2_with fail
  generalize w2.alloc (.cells #[.slice none 0 0, .slice none 0 0] 42) = w3 at *
  clear hbkE
  have hF0 : ∀ j, j < n → rm S f n 0 j = f j := fun j hj => by simp [rm, hj]
  have hrows : ∀ W, Pl w W bk gR capR n (il (rm S f n 0) (n + 2)) 0 [] [] (.slice none 0 0) (.slice none 0 0) → n = 0 ∨ ∃ x, (some ⟨gR, 0, none⟩ : Option Addr) = some x ∧ x.block < W.heap.size ∧ ∀ j, j < n → W.cell? (x.add j) = some (.int .i64 (f j)) := by
    intro W hW
    rcases hW.args with h | ⟨x, h1, h2, h3⟩
    · exact .inl h
    · exact .inr ⟨x, h1, h2, fun j hj => by rw [h3 j hj, hF0 j hj]⟩
  refine (places_any S (by omega) _ n capR (by omega) f _ (hrows _ P3)).mono ?_
  rintro e w4 ⟨rfl, b4, rA⟩
  have P4 := P3.next b4
  have gA : w.heap.size ≤ w3.heap.size + 1 := Nat.le_trans P3.below.size (Nat.le_succ _)
  have gAB := rA.lt
  generalize w3.heap.size + 1 = bA at *
  clear P3 b4
  go_wp2_with fail
  refine (places_any S (by omega) _ n capR (by omega) f _ (hrows _ P4)).mono ?_
  rintro e w5 ⟨rfl, b5, rB⟩
  have P5 := P4.next b5
  replace rA := row_next rA b5
  have gB : bA < w4.heap.size + 1 := by omega
  have gBC := rB.lt
  generalize w4.heap.size + 1 = bB at *
  clear P4 b5 gAB hrows
  go_wp2_with fail
  refine (keep_any w.heap.size bk w _ 0 n bA [] [] _ _ _ (by omega) hn P5.below hbk P5.sh rA).mono ?_
  rintro e w6 ⟨rfl, b6, k6, pA, cA, vL, vW, s6, cpA⟩
  have P6 := P5.keep b6 k6 s6
  replace rA := k6.row rA (by decide) (by decide)
  replace rB := k6.row rB (by decide) (by decide)
  clear P5 b6 k6 s6
  go_wp2_with fail
  refine (keep_any w.heap.size bk w _ 1 n bB _ _ _ _ _ (by omega) hn P6.below hbk P6.sh rB).mono ?_
  rintro e w7 ⟨rfl, b7, k7, pB, cB, vL2, vW2, s7, cpB⟩
  have P7 := P6.keep b7 k7 s7
  replace rA := k7.row rA (by decide) (by decide)
  replace rB := k7.row rB (by decide) (by decide)
  replace cpA := cpA.kept k7
  clear P6 b7 k7 s7
  go_wp2_with fail
  refine (rplaces_any S (by omega) a1 n cap (by omega) f _ (hsrc1 _ P7.below)).mono ?_
  rintro e w8 ⟨p8, c8, rfl, l8, b8⟩
  have P8 := P7.next b8
  replace rA := row_next rA b8
  replace rB := row_next rB b8
  replace cpA := cpA.next b8
  replace cpB := cpB.next b8
  clear P7 b8
  go_wp2_with fail
  refine (same_yes _ p8 n n c8 (by omega) _ _ (Lst.of_row rA) l8).mono ?_
  rintro e w9 ⟨rfl, q9, e9⟩
  have b9 : Below w8.heap.size w8 w9 := by rw [e9]; exact below_drewN _ q9
  have P9 := P8.next b9
  replace rA := row_next rA b9
  replace rB := row_next rB b9
  replace cpA := cpA.next b9
  replace cpB := cpB.next b9
  clear P8 b9 e9 l8
  go_wp2_with fail
  refine (same_yes _ _ n n n (by omega) _ _ (Lst.of_row rA) (Lst.of_row rB)).mono ?_
  rintro e w10 ⟨rfl, q10, e10⟩
  have b10 : Below w9.heap.size w9 w10 := by rw [e10]; exact below_drewN _ q10
  have P10 := P9.next b10
  replace rA := row_next rA b10
  replace rB := row_next rB b10
  replace cpA := cpA.next b10
  replace cpB := cpB.next b10
  clear P9 b10 e10
  go_wp2_with fail
  have P : Pl w w10 bk gR capR n (il (rm S f n 0) (n + 2)) 2 [.slice (some ⟨bA, 0, none⟩) n n, .slice (some ⟨bB, 0, none⟩) n n] [.slice pA n cA, .slice pB n cB] vL2 vW2 := P10
  clear P10
  have hS3I : (S.size : Int) ≤ 3000 := by omega
  generalize hg1 : posf (want S f) = g1 at *
  clear hg1
  go_loopw [10] (fun i wr => ∃ k : Nat, k ≤ n ∧ i = .int .i64 (k : Int) ∧ Pl w wr bk gR capR n (il (rm S f n k) (n + 2)) 2 [.slice (some ⟨bA, 0, none⟩) n n, .slice (some ⟨bB, 0, none⟩) n n] [.slice pA n cA, .slice pB n cB] vL2 vW2 ∧ IRow wr bA 27 g1 (n * 2) ∧ IRow wr bB 27 g1 (n * 2) ∧ Cpy wr pA n g1 ∧ Cpy wr pB n g1) (fun i _ => n - (intOf i).toNat)
  case atStart => exact ⟨0, by omega, rfl, P, rA, rB, cpA, cpB⟩
  case round =>
    clear P rA rB cpA cpB
    obtain ⟨k, hk, rfl, P, rA, rB, cpA, cpB⟩ := hrel
    by_cases hlt : k < n
    · have hltI : (k : Int) < (n : Int) := by omega
      obtain ⟨ad, rfl, hadb, hadc⟩ : ∃ ad, a1 = some ad ∧ ad.block < wr.heap.size ∧ ∀ j, j < n → wr.cell? (ad.add j) = some (.int .i64 (f j)) := by
        rcases hsrc1 wr P.below with h | h
        · omega
        · exact h
      have hm1 : wr.cell? ⟨gR, k, none⟩ = some (.int .i64 (f k)) := by rw [P.cell k (by omega)]; simp [rm, hlt]
      have hm2 : wr.cell? (ad.add k) = some (.int .i64 (f k)) := hadc k hlt
      have hfz : wr.frozen? ⟨gR, k, none⟩ = false := P.room.frozenAt k
      clear hsrc1 hadc
      have H : Hid _ := P
      clear P
      go_wp2_with fail
      go_quiet (fail)
      go_wp2_with fail
      go_roundw
      case rel =>
        have bq := below_drewN wr nq
        have Pq := H.out.next bq
        have K := k3_set Pq.room k (.int .i64 ((S.size : Int) - k))
        exact ⟨k + 1, by omega, by go_num, Pq.store hlt, K _ _ _ _ (row_next rA bq) (by decide), K _ _ _ _ (row_next rB bq) (by decide), (cpA.next bq).k3 K, (cpB.next bq).k3 K⟩
      case measure => simp [intOf]; omega
    · obtain rfl : n = k := by omega
      clear hlt hk hsrc1
      have hltI : ¬ (n : Int) < (n : Int) := by omega
      go_wp2_with (first
        | (at_builtin; refine wpList_append_ints _ rfl _ _ rfl w.heap.size _ 0 [] rfl ?e1 (some ⟨gR, 0, none⟩) n capR (rm S f n n) rfl ?e2 ?e3 ?e4 ?e5))
      case e1 => exact World.ownsRow_lit wr #[] 0 P.below.size (by decide) rfl
      case e2 =>
        refine .inr ⟨_, rfl, fun j hj => ?_⟩
        rcases P.args with h | ⟨x, hx, _, h⟩
        · omega
        · cases hx
          exact below_cell ((Below.refl _ wr).alloc (Nat.le_refl _) _) (h j hj)
      case e3 => omega
      case e4 => have := P.below.size; simp; omega
      intro v3 w11 hv3 hg3
      replace hv3 : w11.ownsRow w.heap.size 3 1 v3 n (il (rm S f n n) n) := by simpa using hv3
      have b11 : Below wr.heap.size wr w11 := ((Below.refl _ wr).alloc (Nat.le_refl _) _).grown hg3 (by simp) (fun j hj => by simp [Value.ownBlock] at hj; omega)
      have P11 := P.next b11
      replace rA := row_next rA b11
      replace rB := row_next rB b11
      replace cpA := cpA.next b11
      replace cpB := cpB.next b11
      obtain ⟨p3, c3, rfl, _⟩ := own_form hv3
      clear P b11 hg3
      go_wp2_with fail
      refine (places_any S (by omega) _ n capR (by omega) (rm S f n n) _ P11.args).mono ?_
      rintro e w12 ⟨rfl, b12, rC⟩
      have P12 := P11.next b12
      have gC : bB < w11.heap.size + 1 := Nat.lt_succ_of_lt rB.lt
      replace rA := row_next rA b12
      replace rB := row_next rB b12
      replace cpA := cpA.next b12
      replace cpB := cpB.next b12
      replace hv3 := own_below hv3 b12
      generalize w11.heap.size + 1 = bC at *
      clear P11 b12
      go_wp2_with fail
      refine (keep_any w.heap.size bk w _ 2 n bC _ _ _ _ _ (by omega) hn P12.below hbk P12.sh rC).mono ?_
      rintro e w13 ⟨rfl, b13, k13, pC, cC, vL3, vW3, s13, cpC⟩
      have P13 := P12.keep b13 k13 s13
      replace rA := k13.row rA (by decide) (by decide)
      replace rB := k13.row rB (by decide) (by decide)
      replace rC := k13.row rC (by decide) (by decide)
      replace cpA := cpA.kept k13
      replace cpB := cpB.kept k13
      replace hv3 := own3_kept hv3 k13
      clear P12 b13 k13 s13
      go_wp2_with fail
      refine (places_any S (by omega) none 0 0 (by omega) f _ (.inl rfl)).mono ?_
      rintro e w14 ⟨rfl, b14, _⟩
      have P14 := P13.next b14
      replace rA := row_next rA b14
      replace rB := row_next rB b14
      replace rC := row_next rC b14
      replace cpA := cpA.next b14
      replace cpB := cpB.next b14
      replace cpC := cpC.next b14
      replace hv3 := own_below hv3 b14
      generalize w13.heap.size + 1 = bN at *
      clear P13 b14
      have h3 : n = 0 ∨ ∃ x, p3 = some x ∧ x.block < w14.heap.size ∧ ∀ j, j < n → w14.cell? (x.add j) = some (.int .i64 (rm S f n n j)) := by
        obtain ⟨p', c', e, h⟩ := own_form hv3
        cases e
        exact h
      go_wp2_with fail
      refine (rplaces_any S (by omega) p3 n c3 (by omega) (rm S f n n) _ h3).mono ?_
      rintro e w15 ⟨p15, c15, rfl, l15, b15⟩
      have P15 := P14.next b15
      replace rA := row_next rA b15
      replace rB := row_next rB b15
      replace rC := row_next rC b15
      replace cpA := cpA.next b15
      replace cpB := cpB.next b15
      replace cpC := cpC.next b15
      clear P14 b15 h3 hv3
      go_wp2_with fail
      refine (same_yes _ p15 n n c15 (by omega) _ _ (Lst.of_row rC) l15).mono ?_
      rintro e w16 ⟨rfl, q16, e16⟩
      have b16 : Below w15.heap.size w15 w16 := by rw [e16]; exact below_drewN _ q16
      have P16 := P15.next b16
      replace rA := row_next rA b16
      replace rB := row_next rB b16
      replace rC := row_next rC b16
      replace cpA := cpA.next b16
      replace cpB := cpB.next b16
      replace cpC := cpC.next b16
      have h77 : w16.cell? ⟨gR, n, none⟩ = some (.int .i64 77) := by rw [P16.cell n (by omega)]; simp [rm]
      have h78 : w16.cell? ⟨gR, n + 1, none⟩ = some (.int .i64 78) := by rw [P16.cell (n + 1) (by omega)]; simp [rm]; intro hx; omega
      obtain ⟨gL, capL, gW, capW, hAp⟩ := ap_of P16 rA rB rC cpA cpB cpC gA gB gC
      clear P15 P16 b16 e16 l15 rA rB rC cpA cpB cpC
      have i1 : (n : Int) < ((n + 2 : Nat) : Int) := by omega
      have i2 : (n : Int) + 1 < ((n + 2 : Nat) : Int) := by omega
      have H : Hid _ := hAp
      clear hAp
      go_wp2_with fail
      refine (apart_any w.heap.size bk w _ n hn _ _ _ _ _ _ _ _ H.out).mono ?_
      rintro e w17 ⟨rfl, b17⟩
      go_wp2_with fail
      go_ret
      exact ⟨rfl, b17⟩
end Go.Proofs.YtnoedlcdcoeokaaDoor
