import Derived.Test.YtlljelfplffglabDoorHRIn
import Derived.Test.YtlljelfplffglabDoorHApart
/-! Runs: alike, runs, Pack. -/
namespace Go.Proofs.YtlljelfplffglabDoor.H
open Go.RowKit Go.Shelf
open Go.Proofs
open Go.Proofs.YtlljelfplffglabDoor.K
set_option linter.unusedVariables false
set_option linter.unusedSimpArgs false
set_option maxHeartbeats 2000000
set_option maxRecDepth 100000
attribute [local go_sem] Oper.semAt_some
theorem alike_any (v : Value) (x : UInt8) (l : List UInt8) (hl : l.length + 1 ≤ maxLen) (w : World) (h : Sl w v (x :: l)) :
    Calls Tryd.prog 47 #[v] w fun e w' => e = .returned (.int .i64 ((lk x 255 l + 1 : Nat) : Int)) ∧ ∃ q, w' = w.drewN q := by
  unfold maxLen at hl
  rcases h with ⟨_, h⟩ | ⟨y, c, rfl, _, hc⟩
  · cases h
  have h0 : w.cell? y = some (.int .u8 (x.toNat : Int)) := by
    have := hc 0 x rfl
    simpa [Addr.add] using this
  have hk : ∀ k b, l[k]? = some b → w.cell? (y.add (k + 1)) = some (.int .u8 (b.toNat : Int)) := fun k b e => hc (k + 1) b (by simpa using e)
  clear hc
  rw [List.length_cons]
  go_enter Tryd.func47, Tryd.ntmps47
  go_wp2
  go_loopw [3] (fun m wr => ∃ k q : Nat, 1 ≤ k ∧ k ≤ lk x 255 l + 1 ∧ m = .int .i64 (k : Int) ∧ wr = w.drewN q) (fun m _ => 256 - (intOf m).toNat)
  case atStart => exact ⟨1, 0, by omega, by omega, rfl, rfl⟩
  case round =>
    obtain ⟨k, q, hk1, hle, rfl, rfl⟩ := hrel
    have hgo := lk_go x 255 l (k - 1) (by omega)
    have h255 := lk_le x 255 l
    obtain ⟨M, hM, hM1⟩ : ∃ M : Int, (if (256 : Int) < (l.length : Int) + 1 then (256 : Int) else (l.length : Int) + 1) = M ∧ M = ((min (l.length + 1) 256 : Nat) : Int) := ⟨((min (l.length + 1) 256 : Nat) : Int), by split <;> omega, rfl⟩
    by_cases hm : k < 256 ∧ k < l.length + 1
    · obtain ⟨h1, h2⟩ := hm
      have eb := List.getElem?_eq_getElem (show k - 1 < l.length by omega)
      obtain ⟨b, hb⟩ : ∃ b, l[k - 1] = b := ⟨_, rfl⟩
      rw [hb] at eb
      have hkb := hk (k - 1) b eb
      rw [show k - 1 + 1 = k by omega] at hkb
      rw [eb] at hgo
      have m2 : (k : Int) < M := by omega
      have m3 : (k : Int) < (l.length : Int) + 1 := by omega
      have hbx : (b = x) ↔ (b.toNat : Int) = x.toNat := by
        constructor
        · rintro rfl; rfl
        · intro e; exact UInt8.toNat_inj.1 (by omega)
      have e1 : (b = x ∧ k < lk x 255 l + 1) ∨ (b ≠ x ∧ k = lk x 255 l + 1) := by
        by_cases e : b = x
        · subst e; exact .inl ⟨rfl, by have := hgo.2 ⟨by omega, rfl⟩; omega⟩
        · refine .inr ⟨e, ?_⟩
          have : ¬ k - 1 < lk x 255 l := fun h => e (Option.some.inj (hgo.1 h).2)
          omega
      clear hb hgo eb hk hM1
      rcases e1 with ⟨e1, e2⟩ | ⟨e1, e2⟩
      · have e3 : (b.toNat : Int) = x.toNat := hbx.1 e1
        rw [e3] at hkb
        clear e3 e1 hbx
        go_wp2_with fail
        go_quiet (fail)
        go_wp2
        go_roundw
        case rel => exact ⟨k + 1, _, by omega, by omega, by go_num, rfl⟩
        case measure => simp [intOf]; omega
      · have e3 : ¬ (b.toNat : Int) = x.toNat := fun h => e1 (hbx.2 h)
        have e4 : ((b.toNat : Int) == x.toNat) = false := by simpa using e3
        have HE := hid e2
        clear e1 hbx e2
        go_wp2_with fail
        go_quiet (fail)
        go_wp2
        go_ret
        exact ⟨by rw [← HE.out]; rfl, _, World.drewN_drewN w q _⟩
    · have e2 : k = lk x 255 l + 1 := by
        have : ¬ k - 1 < lk x 255 l := fun h => by
          have h3 := hgo.1 h
          have : k - 1 < l.length := by
            rw [List.getElem?_eq_some_iff] at h3
            exact h3.2.1
          omega
        omega
      have m2 : decide ((k : Int) < M) = false := by simp; omega
      have HE := hid e2
      clear e2 hgo hM1
      go_wp2_with fail
      go_quiet (fail)
      go_wp2
      go_ret
      exact ⟨by rw [← HE.out]; rfl, _, World.drewN_drewN w q _⟩
def rlF : Nat → List UInt8 → List (UInt8 × UInt8)
  | 0, _ => []
  | _ + 1, [] => []
  | f + 1, x :: l => (x, UInt8.ofNat (lk x 255 l)) :: rlF f (l.drop (lk x 255 l))
theorem rlF_any : ∀ f g l, l.length ≤ f → l.length ≤ g → rlF f l = rlF g l
  | 0, 0, _, _, _ => rfl
  | 0, g + 1, l, h, _ => by obtain rfl : l = [] := List.eq_nil_of_length_eq_zero (by omega); rfl
  | f + 1, 0, l, _, h => by obtain rfl : l = [] := List.eq_nil_of_length_eq_zero (by omega); rfl
  | f + 1, g + 1, [], _, _ => rfl
  | f + 1, g + 1, x :: l, h, k => by
    simp at h k
    rw [rlF, rlF, rlF_any f g (l.drop (lk x 255 l)) (by simp; omega) (by simp; omega)]
/-- The runs: pixel and number. -/
def rl (l : List UInt8) : List (UInt8 × UInt8) := rlF l.length l
theorem rl_cons (x : UInt8) (l : List UInt8) : rl (x :: l) = (x, UInt8.ofNat (lk x 255 l)) :: rl (l.drop (lk x 255 l)) := by
  rw [rl, List.length_cons, rlF, rl, rlF_any l.length (l.drop (lk x 255 l)).length _ (by simp) (Nat.le_refl _)]
def pb (x : UInt8 × UInt8) : List UInt8 := [x.2, x.1]
theorem pk_rlF : ∀ f l, pkF f l = (rlF f l).flatMap pb
  | 0, l => by simp [pkF, rlF]
  | f + 1, [] => by simp [pkF, rlF]
  | f + 1, x :: l => by rw [pkF, rlF, List.flatMap_cons, pk_rlF f]; rfl
theorem pk_rl (l : List UInt8) : pk l = (rl l).flatMap pb := pk_rlF _ l
/-- What a round keeps: all below n₀, and the box. -/
def Kq (n₀ bx : Nat) (A B : World) : Prop := Below n₀ A B ∧ ∀ c t f, A.heap[bx]? = some (.cells c t f) → B.heap[bx]? = some (.cells c t f)
theorem Kq.t {n₀ bx : Nat} {A B C : World} (h : Kq n₀ bx A B) (k : Kq n₀ bx B C) : Kq n₀ bx A C := ⟨h.1.trans k.1, fun c t f e => k.2 c t f (h.2 c t f e)⟩
theorem Kq.b {n₀ bx : Nat} {w : World} (hn : n₀ ≤ w.heap.size) (W : World) (l : Nat) (o o' : Obj) (hl : w.heap.size ≤ l) (h : W.heap[l]? = some o) (hc : o.isCells = false) (hw : o.isWalk = false) : Kq n₀ bx W (W.putObj l o') :=
  ⟨belowK_b hn W l o o' hl h hc hw, fun c t f e => by
    by_cases hb : l = bx
    · subst hb; rw [h] at e; cases e; cases hc
    · rw [World.putObj_heap_other (by omega)]; exact e⟩
theorem Kq.below {n₀ bx : Nat} {A B : World} (h : Below A.heap.size A B) (hn : n₀ ≤ A.heap.size) : Kq n₀ bx A B := ⟨h.mono hn, fun c t f e => (h.block bx (Array.getElem?_eq_some_iff.1 e).1).trans e⟩
theorem grown_of {W W' : World} (b : Below W.heap.size W W') : W.grownBy W' none := ⟨b.os, b.tape, b.output, b.size, fun k hk _ => b.block k hk⟩
theorem sl_drop {W : World} {x : Addr} {n c : Nat} {l : List UInt8} (h : Sl W (.slice (some x) n c) l) (k : Nat) (hk : k < l.length) : n = l.length ∧ l.length ≤ c ∧ Sl W (.slice (some (x.add k)) (n - k) (c - k)) (l.drop k) := by
  rcases h with ⟨e, _⟩ | ⟨y, c', e, hc, h⟩
  · cases e
  · simp only [Value.slice.injEq, Option.some.injEq] at e
    obtain ⟨rfl, rfl, rfl⟩ := e
    refine ⟨rfl, hc, .inr ⟨x.add k, c - k, by simp, by simp; omega, fun j b hj => ?_⟩⟩
    rw [List.getElem?_drop] at hj
    have := h (k + j) b hj
    rw [Addr.add_add]
    exact this
theorem runs_any (p : Option Addr) (n c : Nat) (w : World) : Calls Tryd.prog 36 #[.slice p n c] w fun e w' => e = .returned (.func (.func 46) #[] #[.pointer (some ⟨w.heap.size, 0, none⟩)]) ∧ w' = w.alloc (.cells #[.slice p n c] 23) := by
  go_enter Tryd.func36, Tryd.ntmps36
  go_wp2
  go_ret
  exact ⟨rfl, rfl⟩
theorem cell_box {W : World} {b : Nat} {v : Value} {t : TypeId} {f : Nat × Nat} (h : W.heap[b]? = some (.cells #[v] t f)) : W.cell? ⟨b, 0, none⟩ = some v := by
  rw [cell_of_any W b 0 _ _ _ h]; rfl
theorem runs_stops (n n₀ bx : Nat) (hn : 2 ≤ n) (p : Option Addr) (c : Nat) (s : List UInt8) (hl : s.length ≤ room) (w : World) (h0 : n₀ ≤ w.heap.size) (hv : ∀ W, Below n₀ w W → Sl W (.slice p s.length c) s) (hbx : w.heap[bx]? = some (.cells #[.slice p s.length c] 23 (0, 0))) :
    SeqStopsK Fence.wide n Tryd.prog 46 #[.pointer (some ⟨bx, 0, none⟩)] (fun x : UInt8 × UInt8 => #[.int .u8 (x.1.toNat : Int), .int .i64 ((x.2.toNat : Int) + 1)]) (Kq n₀ bx) (fun xs => xs = rl s) (fun pre => pre <+: rl s) s.length w := fun l J Jx W hW hJ hJx hY hJ0 => by
  unfold room at hl
  have hS : Below n₀ w W := hW.mono h0
  have hn1 : 1 ≤ n := by omega
  have hX : W.heap[bx]? = some (.cells #[.slice p s.length c] 23 (0, 0)) := (hW.block bx (Array.getElem?_eq_some_iff.1 hbx).1).trans hbx
  refine callsIn_of_wp Tryd.func46 rfl trivial ?_ rfl
  simp only [Tryd.ntmps46, List.size_toArray, List.length_cons, List.length_nil, Nat.reduceAdd, Nat.reduceSub, Array.replicate_succ, Array.replicate_zero, List.push_toArray, List.append_toArray, List.nil_append, List.cons_append]
  gi_wp2
  gi_loopw [3] (fun i wr => ∃ (k : Nat) (pre : List (UInt8 × UInt8)), k ≤ s.length ∧ i = .int .i64 (k : Int) ∧ pre ++ rl (s.drop k) = rl s ∧ pre.length ≤ k ∧ J pre wr ∧ Below n₀ w wr ∧ wr.heap[bx]? = some (.cells #[.slice p s.length c] 23 (0, 0))) (fun i _ => s.length - (intOf i).toNat)
  case atStart => exact ⟨0, [], by omega, rfl, rfl, by simp, hJ0, hS, hX⟩
  case round =>
    obtain ⟨k, pre, hk, rfl, hpre, hpl, hJs, hB, hx⟩ := hrel
    have hc0 := cell_box hx
    have i0 : (k : Int) ≤ s.length := by omega
    by_cases hlt : k < s.length
    · have hsl := hv wr hB
      obtain ⟨x, c', e, hca⟩ := sl_at hsl k hlt
      simp only [Value.slice.injEq] at e
      obtain ⟨rfl, _, rfl⟩ := e
      obtain ⟨_, hcc, hdr⟩ := sl_drop hsl k hlt
      obtain ⟨b, hb⟩ : ∃ b, s.getD k 0 = b := ⟨_, rfl⟩
      rw [hb] at hca
      have hd : s.drop k = b :: s.drop (k + 1) := by rw [List.drop_eq_getElem_cons hlt, ← hb]; simp [hlt]
      rw [hd] at hdr hpre
      rw [rl_cons, List.drop_drop] at hpre
      have hll := lk_len b 255 (s.drop (k + 1))
      rw [List.length_drop] at hll
      have hal := alike_any _ b (s.drop (k + 1)) (by rw [List.length_drop]; unfold maxLen; omega) wr hdr
      have h255 := lk_le b 255 (s.drop (k + 1))
      obtain ⟨mb, hmb⟩ : ∃ mb, UInt8.ofNat (lk b 255 (s.drop (k + 1))) = mb := ⟨_, rfl⟩
      have hmn : mb.toNat = lk b 255 (s.drop (k + 1)) := by rw [← hmb]; exact UInt8.toNat_ofNat_of_lt' (by show _ < 256; omega)
      rw [hmb] at hpre
      obtain ⟨m, hm⟩ : ∃ m, lk b 255 (s.drop (k + 1)) + 1 = m := ⟨_, rfl⟩
      rw [hm] at hal
      have hmi : ((mb.toNat : Int) + 1) = (m : Int) := by omega
      rw [show k + 1 + lk b 255 (s.drop (k + 1)) = k + m by omega] at hpre
      have hm1 : 1 ≤ m := by omega
      have hm2 : k + m ≤ s.length := by omega
      have hYk : ∀ W1, J pre W1 → _ := fun W1 h => hY pre (b, mb) W1 h (by omega)
      have hsf := slice_from wr (some x) s.length c k (k : Int) rfl hk
      rw [if_neg (by omega), Option.map_some] at hsf
      have i1 : (k : Int) < s.length := by omega
      have hw1 : IntKind.i64.wrap ((k : Int) + (m : Int)) = ((k + m : Nat) : Int) := by simp [IntKind.wrap, IntKind.bits, IntKind.signed]; omega
      have HS := hid (And.intro hpre (And.intro hll hd))
      simp only [hmi] at hYk
      clear hpre hll hd hdr hm hmb hmn hmi h255
      gi_wp2_with (refine ⟨trivial, ?_⟩; gi_at_call 47; refine (callsIn_wide.2 hal).mono ?_; rintro e w1 ⟨rfl, q, rfl⟩; obtain ⟨fn, tmps, assign, body, hy, hR⟩ := hYk (wr.drewN q) (hJ _ _ _ none hJs ⟨rfl, rfl, rfl, Nat.le_refl _, fun _ _ _ => rfl⟩ (fun r e => by cases e)))
      refine hR.mono ?_
      rintro e W3 (⟨rfl, hJ3, hk3⟩ | ⟨rfl, hJx3⟩)
      · gi_wp2
        refine ⟨⟨k + m, pre ++ [(b, mb)], by omega, rfl, by rw [List.append_assoc]; exact HS.out.1, by simp; omega, hJ3, (show Below n₀ w (wr.drewN q) from ⟨hB.os, hB.tape, hB.output, hB.size, hB.block⟩).trans hk3.1, hk3.2 _ _ _ hx⟩, ?_⟩
        simp [intOf]; omega
      · gi_wp2
        refine bodyPost_ret (results_none rfl _ _ _) rfl ?_
        exact ⟨⟨_, rfl⟩, .inr ⟨_, ⟨rl (s.drop (k + m)), by rw [List.append_assoc]; exact HS.out.1⟩, hJx3⟩⟩
    · obtain rfl : k = s.length := by omega
      rw [List.drop_length] at hpre
      gi_wp2
      go_end0
      exact ⟨⟨_, rfl⟩, .inl ⟨pre, by rw [← hpre]; simp [rl, rlF], hJs⟩⟩
end Go.Proofs.YtlljelfplffglabDoor.H
