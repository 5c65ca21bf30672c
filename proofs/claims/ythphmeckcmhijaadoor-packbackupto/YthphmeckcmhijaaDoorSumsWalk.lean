import Derived.Test.YthphmeckcmhijaaDoorSums
/-! PackSums' walk. -/
namespace Go.Proofs.YthphmeckcmhijaaDoor
open Go.RowKit
set_option linter.unusedVariables false

/-- Rows of bytes stay as they are. -/
def K5 (W W' : World) : Prop := ∀ (b : Nat) (cs : Array Value) (fr : Nat × Nat), W.heap[b]? = some (.cells cs 5 fr) → W'.heap[b]? = some (.cells cs 5 fr)
theorem K5.trans {a b c : World} (h : K5 a b) (k : K5 b c) : K5 a c := fun x cs fr e => k x cs fr (h x cs fr e)
theorem K5.below {W W' : World} (b : Below W.heap.size W W') : K5 W W' := fun x _ _ e => (b.block x (Array.getElem?_eq_some_iff.1 e).1).trans e
theorem K5.grown {W W' : World} {v : Value} {B n : Nat} {xs : List Value} (h : W.ownsRow B 22 1 v n xs) (g : W.grownBy W' v.ownBlock) : K5 W W' := fun b cs fr e => by
  refine (g.block b (Array.getElem?_eq_some_iff.1 e).1 ?_).trans e
  intro hb
  rcases h.2 with ⟨rfl, _⟩ | ⟨x, cap, cur, rfl, _, hx, _⟩
  · simp [Value.ownBlock] at hb
  · simp [Value.ownBlock] at hb
    subst hb
    rw [hx] at e; simp at e
theorem Row.k5 {W W' : World} {B : Nat} {v : Value} {l : List UInt8} (h : Row W B v l) (k : K5 W W') : Row W' B v l := by
  refine ⟨h.1, ?_⟩
  rcases h.2 with h | ⟨g, cap, cur, rfl, h2, h3, h4⟩
  · exact .inl h
  · exact .inr ⟨g, cap, cur, rfl, h2, k g cur _ h3, h4⟩
theorem Roomed.k5 {W W' : World} {B : Nat} {v : Value} {l : List UInt8} (h : Roomed W B v l) (k : K5 W W') : Roomed W' B v l := by
  obtain ⟨g, cap, e, hr⟩ := h
  exact ⟨g, cap, e, hr.k5 k⟩
theorem Roomed.mono {W : World} {B B' : Nat} {v : Value} {l : List UInt8} (h : Roomed W B v l) (hb : B' ≤ B) : Roomed W B' v l := by
  obtain ⟨g, cap, e, hr⟩ := h
  exact ⟨g, cap, e, hr.mono hb⟩
theorem Roomed.sl {W : World} {B : Nat} {v : Value} {l : List UInt8} (h : Roomed W B v l) : Sl W v l := by
  obtain ⟨g, cap, rfl, hr⟩ := h
  have h1 := hr.sl.take l.length (by simp)
  rw [List.take_left] at h1
  exact h1
/-- The roomy copies of the first k parts. -/
def Ins (W : World) (B : Nat) (vals : List Value) (ls : List (List UInt8)) : Prop := ∀ (i : Nat) (v : Value), vals[i]? = some v → ∃ l, ls[i]? = some l ∧ Roomed W B v l
theorem Ins.k5 {W W' : World} {B : Nat} {vals : List Value} {ls : List (List UInt8)} (h : Ins W B vals ls) (k : K5 W W') : Ins W' B vals ls := fun i v hi => by
  obtain ⟨l, h1, h2⟩ := h i v hi
  exact ⟨l, h1, h2.k5 k⟩
theorem own_below {W W' : World} {B : Nat} {e : TypeId} {size : Nat} {v : Value} {n : Nat} {xs : List Value} (h : W.ownsRow B e size v n xs) (b : Below W.heap.size W W') : W'.ownsRow B e size v n xs := by
  refine ⟨h.1, ?_⟩
  rcases h.2 with h | ⟨g, cap, cur, rfl, h2, h3, h4⟩
  · exact .inl h
  · exact .inr ⟨g, cap, cur, rfl, h2, (b.block g (Array.getElem?_eq_some_iff.1 h3).1).trans h3, h4⟩
theorem own_val {W : World} {B : Nat} {e : TypeId} {size : Nat} {v : Value} {n : Nat} {xs : List Value} (h : W.ownsRow B e size v n xs) : ∃ p c, v = .slice p n c := by
  rcases h.2 with ⟨e, e0⟩ | ⟨g, cap, cur, e, _⟩
  · exact ⟨none, 0, by rw [e0]; exact e⟩
  · exact ⟨_, _, e⟩
theorem one_slice (p : Option Addr) (n c : Nat) : (Value.slice p n c).oneCell' = true := rfl
theorem grown_below {W0 W W' : World} {v : Value} {N : Nat} (h0 : Below N W0 W) (h : W.grownBy W' v.ownBlock) (hB : ∀ g, v.ownBlock = some g → N ≤ g) (hN : N ≤ W.heap.size) : Below N W0 W' :=
  h0.trans ⟨h.os, h.tape, h.output, h.size, fun k hk => h.block k (by omega) (fun e => by have := hB k e.symm; omega)⟩
theorem Ins.parts {W : World} {B n : Nat} {p : Option Addr} {c : Nat} {vals : List Value} {ls : List (List UInt8)} (h : Ins W B vals ls) (ho : W.ownsRow B 22 1 (.slice p n c) n vals) (hn : n = ls.length) (hr : ∀ l ∈ ls, l.length + 4096 ≤ room) : PartsS W p ls := fun i l hi => by
  have hlt : i < ls.length := by
    by_cases h : i < ls.length
    · exact h
    · rw [List.getElem?_eq_none (by omega)] at hi; cases hi
  have hvl : vals.length = n := by have := ho.1; simpa using this
  rcases ho.2 with ⟨_, e⟩ | ⟨g, cap, cur, e, _, hg, _⟩
  · omega
  · simp only [Value.slice.injEq] at e
    obtain ⟨rfl, _, rfl⟩ := e
    have hv : vals[i]? = some vals[i] := by simp
    obtain ⟨l', h1, h2⟩ := h i _ hv
    rw [hi] at h1; cases h1
    exact ⟨_, vals[i], rfl, World.ownsRow.cells ho (g := g) rfl i _ hv, h2.sl, hr l (List.mem_of_getElem? hi)⟩

theorem Ins.each {W : World} {B n : Nat} {p : Option Addr} {c : Nat} {vals : List Value} {ls : List (List UInt8)} (h : Ins W B vals ls) (ho : W.ownsRow B 22 1 (.slice p n c) n vals) (hn : n = ls.length) : ∀ (i : Nat) (hi : i < ls.length), ∃ x v, p = some x ∧ W.cell? (x.add i) = some v ∧ Roomed W B v ls[i] := fun i hlt => by
  have hvl : vals.length = n := by have := ho.1; simpa using this
  rcases ho.2 with ⟨_, e⟩ | ⟨g, cap, cur, e, _, hg, _⟩
  · omega
  · simp only [Value.slice.injEq] at e
    obtain ⟨rfl, _, rfl⟩ := e
    have hv : vals[i]? = some vals[i] := by simp
    obtain ⟨l', h1, h2⟩ := h i _ hv
    rw [List.getElem?_eq_getElem hlt] at h1; cases h1
    exact ⟨_, vals[i], rfl, World.ownsRow.cells ho (g := g) rfl i _ hv, h2⟩
theorem wp_append_slice (w : World) {o : Oper} {a : Act} {K : Act → World → Prop} {Q : Exit → Act → World → Prop} (s x : Operand)
    (ho : o.op = .call { callee := .builtin .append, args := #[s, x], argTypes := #[27, 27] }) (B : Nat) (v : Value) (k : Nat) (vals : List Value) (hs : a.eval s = v) (hown : w.ownsRow B 22 1 v k vals)
    (bt : Nat) (u : Value) (hu1 : u.oneCell' = true) (hx : a.eval x = .slice (some ⟨bt, 0, none⟩) 1 1) (hc : w.cell? ⟨bt, 0, none⟩ = some u) (hk : k ≤ 2097152) (hB : B ≤ w.heap.size)
    (h : ∀ v' w', w'.ownsRow B 22 1 v' (k + 1) (vals ++ [u]) → w.grownBy w' v.ownBlock → (v'.ownBlock = v.ownBlock ∨ ∀ g, v'.ownBlock = some g → w.heap.size ≤ g) → K (a.put o.dst v') w') : o.wp Tryd.prog a w K Q := by
  obtain ⟨i0, hi, hz0, hz1, hz2⟩ := info_parts info22
  obtain ⟨v', w', hr, h1, h2, h3, _⟩ := run_append_own2 (P := Tryd.prog) w 27 o.type B 22 i0 (.slice none 0 0) 1 24 Tryd.underlying27 hi hz0 hz1 hz2 rfl (by decide) v k vals hown ⟨bt, 0, none⟩ 1 1 [u] rfl (fun j y hj => by
    match j, hj with
    | 0, hj => simp at hj; subst hj; simp only [Addr.add, if_pos]; exact hc) (by intro y hy; simp at hy; subst hy; exact hu1) (by unfold maxLen; omega) (by omega) hB
  unfold Oper.wp execOp
  simp only [ho, resolve, invoke, builtin, Sem.run_bind, Sem.run_pure, Result.andThen_ok, List.map_toArray, List.map_cons, List.map_nil, hs, hx, hr]
  exact h v' w' h1 h2 h3
theorem wpList_append_slice (w : World) {ops : Array Oper} {rest : List Oper} {o : Oper} {a : Act} {Q : Exit → Act → World → Prop} (hgd : o.guard = none) (s x : Operand)
    (ho : o.op = .call { callee := .builtin .append, args := #[s, x], argTypes := #[27, 27] }) (B : Nat) (v : Value) (k : Nat) (vals : List Value) (hs : a.eval s = v) (hown : w.ownsRow B 22 1 v k vals)
    (bt : Nat) (u : Value) (hu1 : u.oneCell' = true) (hx : a.eval x = .slice (some ⟨bt, 0, none⟩) 1 1) (hc : w.cell? ⟨bt, 0, none⟩ = some u) (hk : k ≤ 2097152) (hB : B ≤ w.heap.size)
    (h : ∀ v' w', w'.ownsRow B 22 1 v' (k + 1) (vals ++ [u]) → w.grownBy w' v.ownBlock → (v'.ownBlock = v.ownBlock ∨ ∀ g, v'.ownBlock = some g → w.heap.size ≤ g) → wpList Tryd.prog ops Q rest (a.put o.dst v') w') : wpList Tryd.prog ops Q (o :: rest) a w :=
  wpList_plain hgd fun _ hK => wp_append_slice w s x ho B v k vals hs hown bt u hu1 hx hc hk hB fun v' w' h2 h3 h4 => hK _ _ (h v' w' h2 h3 h4)

set_option maxHeartbeats 2000000 in
set_option maxRecDepth 100000 in
theorem sums_walk (p : Option Addr) (c : Nat) (ls : List (List UInt8)) (hl : ls.flatten.length ≤ 1048576) (hn : ls.length ≤ 1048576) (w : World) (h : PartsS w p ls) (hT : Tab w) :
    Calls Tryd.prog 4 #[.slice p ls.length c] w fun r w' => r = .returned (.bool true) ∧ Below w.heap.size w w' := by
  have hpos := hT.pos
  have hroom : ∀ l ∈ ls, l.length + 4096 ≤ room := fun l hm => by
    obtain ⟨i, hi, e⟩ := List.mem_iff_getElem.1 hm
    obtain ⟨_, _, _, _, _, h3⟩ := h i l (by rw [List.getElem?_eq_getElem hi, e])
    exact h3
  go_enter Tryd.func4, Tryd.ntmps4
  go_wp2
  go_loopw [3, 11] (fun vin i wr => ∃ (k : Nat) (vals : List Value), k ≤ ls.length ∧ i = .int .i64 (k : Int) ∧ wr.ownsRow w.heap.size 22 1 vin k vals ∧ Below w.heap.size w wr ∧ Ins wr w.heap.size vals ls) (fun _ i _ => ls.length - (intOf i).toNat)
  case atStart => exact ⟨0, [], by omega, rfl, World.ownsRow_nil _ _ _ _, Below.refl _ _, fun i v hi => by simp at hi⟩
  case round =>
    obtain ⟨k, vals, hk, rfl, ho, hb, hins⟩ := hrel
    have hz := hb.size
    by_cases hlt : k < ls.length
    · obtain ⟨x, v, rfl, hc, hs, hlv⟩ := (h.below hb) k (ls[k]) (by simp)
      have i1 : (k : Int) < ls.length := by omega
      have hro := roomy_any v ls[k] (by omega) wr hs
      obtain ⟨pv, cv, hve, _⟩ := hs.ex
      subst hve
      go_wp2_with fail
      refine hro.mono ?_
      rintro r w1 ⟨u, rfl, h11, h12⟩
      have ho1 := own_below ho h12
      have hb1 := hb.trans (h12.mono hz)
      have hz1' : w.heap.size ≤ w1.heap.size := hb1.size
      have hins1 := hins.k5 (K5.below h12)
      have h11' := h11.mono hz
      obtain ⟨g, cap, hue, _⟩ := id h11
      subst hue
      have hal : Below w1.heap.size w1 (w1.alloc (.cells #[.slice (some ⟨g, 0, none⟩) ls[k].length cap] 22)) := (Below.refl _ _).alloc (Nat.le_refl _) _
      have hcell : (w1.alloc (.cells #[.slice (some ⟨g, 0, none⟩) ls[k].length cap] 22)).cell? ⟨w1.heap.size, 0, none⟩ = some (.slice (some ⟨g, 0, none⟩) ls[k].length cap) := cell_of_any _ _ 0 _ _ _ (heap_alloc_any w1 _)
      have ho2 := own_below ho1 hal
      have hb2 := hb1.trans (hal.mono hz1')
      have hins2 := hins1.k5 (K5.below hal)
      have hro2 := h11'.k5 (K5.below hal)
      have hvl : vals.length = k := by have := ho.1; simpa using this
      clear ho1 hins1 h11' h11 hro hins ho hs
      have hz2' : w.heap.size ≤ (w1.alloc (.cells #[.slice (some ⟨g, 0, none⟩) ls[k].length cap] 22)).heap.size := hb2.size
      go_wp2_with (first | (at_builtin; refine wpList_append_slice _ rfl _ _ rfl w.heap.size _ k vals rfl ho2 w1.heap.size (.slice (some ⟨g, 0, none⟩) ls[k].length cap) rfl rfl hcell (by omega) hz2' ?_))
      intro v' w' hr1 hr2 hr3
      have hb3 := grown_below hb2 hr2 (fun g e => (ho2.lt g e).1) hz2'
      have hK3 : K5 _ w' := K5.grown ho2 hr2
      have hins3 : Ins w' w.heap.size (vals ++ [.slice (some ⟨g, 0, none⟩) ls[k].length cap]) ls := fun i v hi => by
        by_cases hik : i < k
        · rw [List.getElem?_append_left (by omega)] at hi
          exact (hins2.k5 hK3) i v hi
        · have : i = k := by
            by_cases h : i = k
            · exact h
            · rw [List.getElem?_eq_none (by simp; omega)] at hi; cases hi
          subst this
          rw [List.getElem?_append_right (by omega)] at hi
          simp [hvl] at hi
          subst hi
          exact ⟨ls[i], by simp, hro2.k5 hK3⟩
      clear hins2 hro2 ho2 hb2 hK3 hr2 hr3 hal hcell
      go_wp2
      go_roundw
      case rel =>
        first
          | exact ⟨k + 1, _, by omega, by go_num, hr1, hb3, hins3⟩
          | ((repeat apply Exists.intro); refine ⟨⟨k + 1, _, by omega, ?_, hr1, hb3, hins3⟩, rfl⟩; go_num)
      case measure => simp [intOf]; omega
    · obtain rfl : k = ls.length := by omega
      have hve := own_val ho
      obtain ⟨pv, cv, hve⟩ := hve
      subst hve
      have hj := join_any p c ls (by unfold room; omega) (by unfold maxLen; omega) wr (h.below hb)
      have i1 : ¬ ((ls.length : Int) < ls.length) := by omega
      go_wp2_with fail
      refine hj.mono ?_
      rintro r w1 ⟨u, rfl, h11, h12⟩
      have hb1 := hb.trans (h12.mono hz)
      have hz1 : w.heap.size ≤ w1.heap.size := hb1.size
      have ho1 := own_below ho h12
      have hins1 := hins.k5 (K5.below h12)
      have hP1 := hins1.parts ho1 rfl hroom
      have hT1 := hT.below hb1 hpos
      have hs1 := sum_any pv cv ls (by unfold maxLen; omega) w1 hP1.parts hT1
      obtain ⟨pu, cu, hue, hbu⟩ := h11.sl.ex
      subst hue
      have hrs := rsum_any pu cu ls.flatten (by unfold maxLen; omega) w1 hbu
      obtain ⟨hpo, hbo⟩ := parts_one w1 _ ls.flatten (by unfold room; omega) h11.sl
      have hT2 := hT1.below hbo hT1.pos
      have hs2 := sum_any _ 1 [ls.flatten] (by simp [maxLen]) _ hpo hT2
      have hbu2 := hbu.below hbo
      have hrs2 := rsum_any pu cu ls.flatten (by unfold maxLen; omega) _ hbu2
      rw [show ([ls.flatten].flatten) = ls.flatten by simp] at hs2
      have hb2 := hb1.trans (hbo.mono hz1)
      have ho2 := own_below ho1 hbo
      have hins2 := hins1.k5 (K5.below hbo)
      have hA := hins2.each ho2 rfl
      have hz2 := hb2.size
      have hPS2 := h.below hb2
      have hvl : vals.length = ls.length := by have := ho2.1; simpa using this
      clear ho1 hins1 hP1 hpo hbu hbu2 h11 h12 hj ho hins
      generalize ls.flatten.length = nu at *
      generalize crc ls.flatten = cc at *
      generalize hW2 : w1.alloc (.cells #[.slice pu nu cu] 22) = W2 at *
      clear hbo hT1
      go_wp2_with fail
      refine hs1.mono ?_
      rintro r w3 ⟨rfl, rfl⟩
      go_wp2_with fail
      refine hrs.mono ?_
      rintro r w3 ⟨rfl, rfl⟩
      go_wp2_with fail
      refine hs2.mono ?_
      rintro r w4 ⟨rfl, rfl⟩
      go_wp2_with fail
      refine hrs2.mono ?_
      rintro r w5 ⟨rfl, rfl⟩
      clear hs1 hs2 hrs hrs2 hW2
      go_wp2_with fail
      go_loopw [38] (fun i wr => ∃ k q : Nat, k ≤ ls.length ∧ i = .int .i64 (k : Int) ∧ wr = w5.drewN q) (fun i _ => ls.length - (intOf i).toNat)
      case atStart => exact ⟨0, 0, by omega, rfl, rfl⟩
      case round =>
        obtain ⟨k, q, hk, rfl, rfl⟩ := hrel
        by_cases hlt : k < ls.length
        · obtain ⟨x, v, rfl, hc, hs, hlv⟩ := hPS2 k (ls[k]) (by simp)
          obtain ⟨y, v2, rfl, hc2, hro⟩ := hA k hlt
          have c1 : (w5.drewN q).cell? (x.add k) = some v := hc
          have c2 : (w5.drewN q).cell? (y.add k) = some v2 := hc2
          have haw := aswas_any w.heap.size v2 v ls[k] (by omega) (w5.drewN q) hro hs
          have i2 : (k : Int) < ls.length := by omega
          obtain ⟨p1, n1, e1, _⟩ := hs.ex
          obtain ⟨g2, n2, e2, _⟩ := id hro
          subst e1 e2
          clear hc hc2 hs hro i1
          go_wp2_with fail
          refine haw.mono ?_
          rintro r w6 ⟨rfl, q2, rfl⟩
          go_wp2_with fail
          go_roundw
          case rel =>
            refine ⟨k + 1, q + q2, by omega, by go_num, ?_⟩
            first | rfl | exact World.drewN_drewN _ _ _ | trivial | trace_state
          case measure => simp [intOf]; omega
        · obtain rfl : k = ls.length := by omega
          have hk := known_any (w5.drewN q) (fun i hi => hT2 i hi)
          go_wp2_with fail
          refine hk.mono ?_
          rintro r w6 ⟨rfl, h6⟩
          go_wp2
          go_ret
          exact ⟨rfl, (below_drewN hb2 q).trans (h6.mono hz2)⟩
end Go.Proofs.YthphmeckcmhijaaDoor
