import Derived.Test.YtmlpijjjkpnioaaDoorKWriter
import Derived.Deep.Slices
/-! The reader. -/
namespace Go.Proofs.YtmlpijjjkpnioaaDoor.K
open Go.RowKit
set_option linter.unusedVariables false

/-- A reader at block br: l is left, error e; what is left lies in block gr. -/
structure Rd (W : World) (br gr : Nat) (v : Value) (l : List UInt8) (e : Nat) : Prop where
  blk : W.heap[br]? = some (.cells #[v, .int .i64 (e : Int)] 100 (0, 0))
  sl : Sl W v l
  own : v.ownBlock = none ∨ v.ownBlock = some gr
  len : l.length ≤ room
structure RStep (br : Nat) (W W' : World) : Prop where
  os : W'.os = W.os
  tape : W'.tape = W.tape
  output : W'.output = W.output
  size : W.heap.size ≤ W'.heap.size
  block : ∀ k, k < W.heap.size → k ≠ br → W'.heap[k]? = W.heap[k]?
theorem RStep.refl (br : Nat) (W : World) : RStep br W W := ⟨rfl, rfl, rfl, Nat.le_refl _, fun _ _ _ => rfl⟩
theorem RStep.trans {br : Nat} {a b c : World} (h : RStep br a b) (k : RStep br b c) : RStep br a c :=
  ⟨k.os.trans h.os, k.tape.trans h.tape, k.output.trans h.output, Nat.le_trans h.size k.size, fun x hx h1 => (k.block x (Nat.lt_of_lt_of_le hx h.size) h1).trans (h.block x hx h1)⟩
theorem RStep.of_below {br : Nat} {W W' : World} (h : Below W.heap.size W W') : RStep br W W' := ⟨h.os, h.tape, h.output, h.size, fun k hk _ => h.block k hk⟩
theorem RStep.of_set {br : Nat} (W : World) (j : Nat) (v : Value) : RStep br W (W.setCell ⟨br, j, none⟩ v) := ⟨rfl, rfl, rfl, by simp, fun k _ h => heap_setCell_other W ⟨br, j, none⟩ k v h⟩
theorem Rd.lt {W : World} {br gr : Nat} {v : Value} {l : List UInt8} {e : Nat} (h : Rd W br gr v l e) : br < W.heap.size := (Array.getElem?_eq_some_iff.1 h.blk).1
theorem Rd.below {W W' : World} {br gr : Nat} {v : Value} {l : List UInt8} {e : Nat} (h : Rd W br gr v l e) (b : Below W.heap.size W W') : Rd W' br gr v l e := ⟨(b.block br h.lt).trans h.blk, h.sl.below b, h.own, h.len⟩
theorem Rd.c0 {W : World} {br gr : Nat} {v : Value} {l : List UInt8} {e : Nat} (h : Rd W br gr v l e) : W.cell? ⟨br, 0, none⟩ = some v := cell_of_row W br 0 _ _ _ h.blk
theorem Rd.c1 {W : World} {br gr : Nat} {v : Value} {l : List UInt8} {e : Nat} (h : Rd W br gr v l e) : W.cell? ⟨br, 1, none⟩ = some (.int .i64 (e : Int)) := cell_of_row W br 1 _ _ _ h.blk
theorem Rd.fz {W : World} {br gr : Nat} {v : Value} {l : List UInt8} {e : Nat} (h : Rd W br gr v l e) (j : Nat) : W.frozen? ⟨br, j, none⟩ = false := frozen_of_row W br j _ _ h.blk
/-- Bytes are kept by a store into the reader. -/
theorem Rd.keeps {W : World} {br gr : Nat} {v : Value} {l : List UInt8} {e : Nat} (h : Rd W br gr v l e) (j : Nat) (x : Value) {u : Value} {m : List UInt8} (hu : Sl W u m) : Sl (W.setCell ⟨br, j, none⟩ x) u m := by
  rcases hu with hu | ⟨a, c, rfl, hc, hu⟩
  · exact .inl hu
  · refine .inr ⟨a, c, rfl, hc, fun i b hi => ?_⟩
    have h1 := hu i b hi
    have hne : (a.add i).block ≠ br := by
      intro e2
      have hs := World.cell?_spot h1
      generalize hA : a.add i = A at *
      obtain ⟨ab, ao, sp⟩ := A
      simp only at e2 hs
      subst e2 hs
      rw [cell_of_row W ab ao _ _ _ h.blk] at h1
      obtain ⟨p, c2, rfl, _⟩ := h.sl.ex
      match ao, h1 with
      | 0, h1 => simp at h1
      | 1, h1 => simp at h1
      | n + 2, h1 => simp at h1
    rw [World.cell?_of_block (w := W) (heap_setCell_other W ⟨br, j, none⟩ (a.add i).block x hne)]
    exact h1
theorem Rd.setErr {W : World} {br gr : Nat} {v : Value} {l : List UInt8} {e : Nat} (h : Rd W br gr v l e) (e' : Nat) : Rd (W.setCell ⟨br, 1, none⟩ (.int .i64 (e' : Int))) br gr v l e' := by
  refine ⟨?_, h.keeps 1 _ h.sl, h.own, h.len⟩
  rw [heap_setCell_same W br 1 _ _ _ h.blk]; simp
theorem Rd.setLeft {W : World} {br gr : Nat} {v : Value} {l : List UInt8} {e : Nat} (h : Rd W br gr v l e) {v' : Value} {l' : List UInt8} (hs : Sl W v' l') (ho : v'.ownBlock = none ∨ v'.ownBlock = some gr) (hl : l'.length ≤ room) : Rd (W.setCell ⟨br, 0, none⟩ v') br gr v' l' e := by
  refine ⟨?_, h.keeps 0 _ hs, ho, hl⟩
  rw [heap_setCell_same W br 0 _ _ _ h.blk]; simp
theorem Sl.take {W : World} {p : Option Addr} {n c : Nat} {l : List UInt8} (h : Sl W (.slice p n c) l) (k : Nat) (hk : k ≤ l.length) : Sl W (.slice p k c) (l.take k) := by
  rcases h with ⟨e, rfl⟩ | ⟨x, c', e, hc, h⟩
  · cases e; obtain rfl : k = 0 := by simpa using hk
    exact .inl ⟨rfl, rfl⟩
  · simp only [Value.slice.injEq] at e
    obtain ⟨rfl, rfl, rfl⟩ := e
    refine .inr ⟨x, c, by simp; omega, by simp; omega, fun j b hj => h j b ?_⟩
    rw [List.getElem?_take] at hj
    split at hj
    · exact hj
    · cases hj
theorem Sl.drop {W : World} {p : Option Addr} {n c : Nat} {l : List UInt8} (h : Sl W (.slice p n c) l) (k : Nat) (hk : k ≤ l.length) : Sl W (.slice (if c = k then p else p.map (·.add k)) (n - k) (c - k)) (l.drop k) := by
  rcases h with ⟨e, rfl⟩ | ⟨x, c', e, hc, h⟩
  · cases e; obtain rfl : k = 0 := by simpa using hk
    exact .inl ⟨rfl, rfl⟩
  · simp only [Value.slice.injEq] at e
    obtain ⟨rfl, rfl, rfl⟩ := e
    by_cases hck : c = k
    · subst hck
      have h0 : l.length - c = 0 := by omega
      have h1 : l.drop c = [] := List.drop_eq_nil_of_le (by omega)
      rw [if_pos rfl, h1, h0]
      exact .inr ⟨x, c - c, rfl, by simp, fun j b hj => by simp at hj⟩
    · rw [if_neg hck]
      refine .inr ⟨x.add k, c - k, by simp, by simp; omega, fun j b hj => ?_⟩
      rw [List.getElem?_drop] at hj
      rw [Deep.add_add]
      exact h _ b hj
theorem own_slice (p : Option Addr) (n c n' c' k : Nat) : (Value.slice (if c = k then p else p.map (·.add k)) n' c').ownBlock = (Value.slice p n c).ownBlock := by
  cases p with
  | none => split <;> rfl
  | some x =>
    split
    · rfl
    · simp only [Option.map_some, Value.ownBlock]
      congr 1
      unfold Addr.add; split <;> rfl

set_option maxHeartbeats 1000000 in
set_option maxRecDepth 100000 in
theorem err_any (br gr : Nat) (v : Value) (l : List UInt8) (e : Nat) (w : World) (h : Rd w br gr v l e) :
    Calls Tryd.prog 62 #[.pointer (some ⟨br, 0, none⟩)] w fun r w' => r = .returned (.int .i64 (e : Int)) ∧ w' = w := by
  have c1 := h.c1
  go_enter Tryd.func62, Tryd.ntmps62
  go_wp2
  go_ret
  exact ⟨rfl, rfl⟩
set_option maxHeartbeats 1000000 in
set_option maxRecDepth 100000 in
theorem err_nil (w : World) : Calls Tryd.prog 62 #[.pointer none] w fun r w' => r = .returned (.int .i64 1) ∧ w' = w := by
  go_enter Tryd.func62, Tryd.ntmps62
  go_wp2
  go_ret
  exact ⟨rfl, rfl⟩
/-- What a taking of n bytes gives, and leaves. -/
def tk (l : List UInt8) (e : Nat) (n : Int) : List UInt8 × List UInt8 × Nat :=
  if e ≠ 0 then ([], l, e) else if n < 0 ∨ (l.length : Int) < n then ([], l, 30) else (l.take n.toNat, l.drop n.toNat, 0)
theorem tk_err {l : List UInt8} {e : Nat} {n : Int} (h : e ≠ 0) : tk l e n = ([], l, e) := by simp [tk, h]
theorem tk_out {l : List UInt8} {n : Int} (h : n < 0 ∨ (l.length : Int) < n) : tk l 0 n = ([], l, 30) := by simp [tk, h]
theorem tk_in {l : List UInt8} (k : Nat) (h : k ≤ l.length) : tk l 0 (k : Int) = (l.take k, l.drop k, 0) := by
  have h2 : ¬ ((k : Int) < 0 ∨ (l.length : Int) < (k : Int)) := by omega
  simp [tk]; omega

set_option maxHeartbeats 1000000 in
set_option maxRecDepth 100000 in
theorem take_any (br gr : Nat) (v : Value) (l : List UInt8) (e : Nat) (he : e < 1000) (n : Int) (w : World) (h : Rd w br gr v l e) :
    Calls Tryd.prog 55 #[.pointer (some ⟨br, 0, none⟩), .int .i64 n] w fun r w' => ∃ u v', r = .returned u ∧ Sl w' u (tk l e n).1 ∧ (u.ownBlock = none ∨ u.ownBlock = some gr) ∧ Rd w' br gr v' (tk l e n).2.1 (tk l e n).2.2 ∧ RStep br w w' := by
  have herr := err_any br gr v l e w h
  by_cases he0 : e = 0
  · subst he0
    by_cases hout : n < 0 ∨ (l.length : Int) < n
    · rw [tk_out hout]
      have hE := h.setErr 30
      have f1 := h.fz 1
      have c1 := h.c1
      have c0 := h.c0
      obtain ⟨p, c, rfl, _⟩ := h.sl.ex
      have HH : Hid _ := hE
      clear hE
      by_cases hneg : n < 0
      · go_enter Tryd.func55, Tryd.ntmps55
        go_wp2_with fail
        refine herr.mono ?_
        rintro e2 w' ⟨rfl, rfl⟩
        go_wp2
        go_ret
        exact ⟨_, _, rfl, .inl ⟨rfl, rfl⟩, .inl rfl, HH.out, RStep.of_set _ _ _⟩
      · have h2 : (l.length : Int) < n := by omega
        have h3 : 0 ≤ n := by omega
        go_enter Tryd.func55, Tryd.ntmps55
        go_wp2_with fail
        refine herr.mono ?_
        rintro e2 w' ⟨rfl, rfl⟩
        go_wp2
        go_ret
        exact ⟨_, _, rfl, .inl ⟨rfl, rfl⟩, .inl rfl, HH.out, RStep.of_set _ _ _⟩
    · obtain ⟨k, rfl⟩ : ∃ k : Nat, n = (k : Int) := ⟨n.toNat, by omega⟩
      have hk : k ≤ l.length := by omega
      rw [tk_in k hk]
      have hS := h.sl
      have c0 := h.c0
      have f0 := h.fz 0
      have ho := h.own
      obtain ⟨p, c, rfl, _⟩ := h.sl.ex
      have hlc : l.length ≤ c := by
        rcases hS with ⟨e, rfl⟩ | ⟨_, _, e, hc, _⟩
        · cases e; simp
        · cases e; exact hc
      have s1 := fun W => slice_to W p l.length c k (k : Int) rfl (by omega)
      have s2 := fun W => slice_from W p l.length c k (k : Int) rfl hk
      have hD := h.setLeft (hS.drop k hk) (by rw [own_slice p l.length c]; exact ho) (by have := h.len; simp; omega)
      have hT := h.keeps 0 (.slice (if c = k then p else p.map (·.add k)) (l.length - k) (c - k)) (hS.take k hk)
      have ho' : (Value.slice p k c).ownBlock = none ∨ (Value.slice p k c).ownBlock = some gr := by cases p with
        | none => exact .inl rfl
        | some x => exact ho
      have HD : Hid _ := hD
      have HT : Hid _ := hT
      clear hD hT hS
      generalize hP : (if c = k then p else p.map (·.add k)) = P' at *
      have i1 : (0 : Int) ≤ k := by omega
      have i2 : (k : Int) ≤ l.length := by omega
      go_enter Tryd.func55, Tryd.ntmps55
      go_wp2_with fail
      refine herr.mono ?_
      rintro e2 w' ⟨rfl, rfl⟩
      go_wp2
      go_ret
      exact ⟨_, _, rfl, HT.out, ho', HD.out, RStep.of_set _ _ _⟩
  · rw [tk_err he0]
    have i1 : ((e : Int) != 0) = true := by simp; omega
    go_enter Tryd.func55, Tryd.ntmps55
    go_wp2_with fail
    refine herr.mono ?_
    rintro e2 w' ⟨rfl, rfl⟩
    go_wp2
    go_ret
    exact ⟨_, v, rfl, .inl ⟨rfl, rfl⟩, .inl rfl, h, RStep.refl _ _⟩
theorem numL_append (a b : List UInt8) : numL (a ++ b) = numL a + 2 ^ (8 * a.length) * numL b := by
  induction a with
  | nil => simp [numL]
  | cons x a ih => simp only [List.cons_append, numL, ih, List.length_cons, show 8 * (a.length + 1) = 8 + 8 * a.length by omega, Nat.pow_add, Nat.mul_add, Nat.mul_assoc]; omega
theorem numL_lt (l : List UInt8) : numL l < 2 ^ (8 * l.length) := by
  induction l with
  | nil => simp [numL]
  | cons b l ih =>
    have := u8lt b
    simp only [numL, List.length_cons, show 8 * (l.length + 1) = 8 + 8 * l.length by omega, Nat.pow_add]
    have h2 : 2 ^ 8 * (numL l + 1) ≤ 2 ^ 8 * 2 ^ (8 * l.length) := Nat.mul_le_mul_left _ ih
    omega
theorem or_shift (n a b : Nat) (h : a < 2 ^ n) : a ||| (b * 2 ^ n) = a + b * 2 ^ n := by
  have := Nat.two_pow_add_eq_or_of_lt h b
  rw [Nat.or_comm, Nat.mul_comm b, ← this, Nat.add_comm]
theorem shl_or (A b k : Nat) (hk : k ≤ 3) (hb : b < 256) (hA : A < 2 ^ (8 * k)) : bits .or .u32 (A : Int) ((b : Int) * 2 ^ (8 * k) % 4294967296) = ((A + 2 ^ (8 * k) * b : Nat) : Int) := by
  have h1 : 2 ^ (8 * k) ≤ 2 ^ 24 := Nat.pow_le_pow_right (by decide) (by omega)
  have h2 : b * 2 ^ (8 * k) ≤ 255 * 2 ^ 24 := Nat.mul_le_mul (by omega) h1
  have h3 : ((b : Int) * 2 ^ (8 * k)) = ((b * 2 ^ (8 * k) : Nat) : Int) := by simp
  have h4 := or32 A (b * 2 ^ (8 * k)) (by omega) (by omega)
  rw [or_shift (8 * k) A b hA] at h4
  rw [h3, show (((b * 2 ^ (8 * k) : Nat) : Int) % 4294967296) = ((b * 2 ^ (8 * k) : Nat) : Int) by omega, h4, Nat.mul_comm]
set_option maxHeartbeats 1000000 in
set_option maxRecDepth 100000 in
theorem lowest_any (u : Value) (m : List UInt8) (hm : m.length ≤ 4) (w : World) (h : Sl w u m) :
    Calls Tryd.prog 54 #[u] w fun r w' => r = .returned (.int .u32 (numL m : Int)) ∧ w' = w := by
  obtain ⟨p, c, rfl, hb⟩ := h.ex
  go_enter Tryd.func54, Tryd.ntmps54
  go_wp2
  go_loopw [3, 8] (fun r i wr => ∃ k : Nat, k ≤ m.length ∧ wr = w ∧ i = .int .i64 (k : Int) ∧ r = .int .u32 (numL (m.take k) : Int)) (fun _ i _ => m.length - (intOf i).toNat)
  case atStart => exact ⟨0, by omega, rfl, rfl, rfl⟩
  case round =>
    obtain ⟨k, hk, rfl, rfl, rfl⟩ := hrel
    by_cases hlt : k < m.length
    · obtain ⟨x, rfl, hc⟩ := hb.at k (m[k]) (by simp)
      have hA := numL_lt (m.take k)
      have hst : numL (m.take (k + 1)) = numL (m.take k) + 2 ^ (8 * k) * m[k].toNat := by
        rw [List.take_succ_eq_append_getElem hlt, numL_append]
        simp only [numL, List.length_take, Nat.min_eq_left (Nat.le_of_lt hlt), Nat.mul_zero, Nat.zero_add]
      have hbl := u8lt m[k]
      rw [List.length_take, Nat.min_eq_left (Nat.le_of_lt hlt)] at hA
      generalize hAe : numL (m.take k) = A at *
      generalize hBe : m[k].toNat = b at *
      have hos := or_shift (8 * k) A b hA
      have i1 : (k : Int) < m.length := by omega
      have hS := shl_or A b k (by omega) hbl hA
      go_wp2
      go_roundw
      case rel => exact ⟨k + 1, by omega, by trivial, by go_num, by rw [hst]; simp⟩
      case measure => simp [intOf]; omega
    · obtain rfl : k = m.length := by omega
      rw [List.take_length]
      go_wp2
      go_ret
      exact ⟨rfl, rfl⟩
theorem tk_len (l : List UInt8) (e : Nat) (n : Nat) : (tk l e (n : Int)).1.length ≤ n := by
  unfold tk
  split
  · simp
  · split
    · simp
    · simp; omega
theorem tk_le (l : List UInt8) (e : Nat) (n : Int) : (tk l e n).1.length ≤ l.length := by
  unfold tk
  split
  · simp
  · split
    · simp
    · simp; omega

set_option maxHeartbeats 1000000 in
set_option maxRecDepth 100000 in
theorem rbyte_any (br gr : Nat) (v : Value) (l : List UInt8) (e : Nat) (he : e < 1000) (w : World) (h : Rd w br gr v l e) :
    Calls Tryd.prog 37 #[.pointer (some ⟨br, 0, none⟩)] w fun r w' => r = .returned (.int .u8 (numL (tk l e 1).1 : Int)) ∧ ∃ v', Rd w' br gr v' (tk l e 1).2.1 (tk l e 1).2.2 ∧ RStep br w w' := by
  have ht := take_any br gr v l e he 1 w h
  have hlen : (tk l e 1).1.length ≤ 1 := tk_len l e 1
  have hb := numL_lt (tk l e 1).1
  have hb2 : 2 ^ (8 * (tk l e 1).1.length) ≤ 2 ^ 8 := Nat.pow_le_pow_right (by decide) (by omega)
  generalize tk l e 1 = t at *
  have hm := fun u w' h => lowest_any u t.1 (by omega) w' h
  have hN : numL t.1 < 256 := by omega
  generalize numL t.1 = N at *
  go_enter Tryd.func37, Tryd.ntmps37
  go_wp2_with fail
  refine ht.mono ?_
  rintro r w' ⟨u, v', rfl, h1, h2, h3, h4⟩
  go_wp2_with fail
  refine (hm u w' h1).mono ?_
  rintro r w2 ⟨rfl, rfl⟩
  go_wp2
  go_ret
  exact ⟨rfl, v', h3, h4⟩
set_option maxHeartbeats 1000000 in
set_option maxRecDepth 100000 in
theorem rcell_any (br gr : Nat) (v : Value) (l : List UInt8) (e : Nat) (he : e < 1000) (w : World) (h : Rd w br gr v l e) :
    Calls Tryd.prog 38 #[.pointer (some ⟨br, 0, none⟩)] w fun r w' => r = .returned (.int .u16 (numL (tk l e 2).1 : Int)) ∧ ∃ v', Rd w' br gr v' (tk l e 2).2.1 (tk l e 2).2.2 ∧ RStep br w w' := by
  have ht := take_any br gr v l e he 2 w h
  have hlen : (tk l e 2).1.length ≤ 2 := tk_len l e 2
  have hb := numL_lt (tk l e 2).1
  have hb2 : 2 ^ (8 * (tk l e 2).1.length) ≤ 2 ^ 16 := Nat.pow_le_pow_right (by decide) (by omega)
  generalize tk l e 2 = t at *
  have hm := fun u w' h => lowest_any u t.1 (by omega) w' h
  have hN : numL t.1 < 65536 := by omega
  generalize numL t.1 = N at *
  go_enter Tryd.func38, Tryd.ntmps38
  go_wp2_with fail
  refine ht.mono ?_
  rintro r w' ⟨u, v', rfl, h1, h2, h3, h4⟩
  go_wp2_with fail
  refine (hm u w' h1).mono ?_
  rintro r w2 ⟨rfl, rfl⟩
  go_wp2
  go_ret
  exact ⟨rfl, v', h3, h4⟩
set_option maxHeartbeats 1000000 in
set_option maxRecDepth 100000 in
theorem rword_any (br gr : Nat) (v : Value) (l : List UInt8) (e : Nat) (he : e < 1000) (w : World) (h : Rd w br gr v l e) :
    Calls Tryd.prog 53 #[.pointer (some ⟨br, 0, none⟩)] w fun r w' => r = .returned (.int .u32 (numL (tk l e 4).1 : Int)) ∧ ∃ v', Rd w' br gr v' (tk l e 4).2.1 (tk l e 4).2.2 ∧ RStep br w w' := by
  have ht := take_any br gr v l e he 4 w h
  have hlen : (tk l e 4).1.length ≤ 4 := tk_len l e 4
  generalize tk l e 4 = t at *
  have hm := fun u w' h => lowest_any u t.1 (by omega) w' h
  generalize numL t.1 = N at *
  go_enter Tryd.func53, Tryd.ntmps53
  go_wp2_with fail
  refine ht.mono ?_
  rintro r w' ⟨u, v', rfl, h1, h2, h3, h4⟩
  go_wp2_with fail
  refine (hm u w' h1).mono ?_
  rintro r w2 ⟨rfl, rfl⟩
  go_wp2
  go_ret
  exact ⟨rfl, v', h3, h4⟩
set_option maxHeartbeats 1000000 in
set_option maxRecDepth 100000 in
theorem newreader_any (u : Value) (l : List UInt8) (hl : l.length ≤ room) (w : World) (h : Sl w u l) :
    Calls Tryd.prog 36 #[u] w fun r w' => ∃ br gr v, r = .returned (.pointer (some ⟨br, 0, none⟩)) ∧ w.heap.size ≤ br ∧ w.heap.size ≤ gr ∧ gr ≠ br ∧ Rd w' br gr v l 0 ∧ Below w.heap.size w w' ∧ (gr < w'.heap.size ∨ v.ownBlock = none) := by
  go_enter Tryd.func36, Tryd.ntmps36
  go_wp2_with fail
  refine (clone_any u l hl w h).mono ?_
  rintro r w1 ⟨u2, rfl, h1, h2⟩
  have hs := h1.sl
  obtain ⟨p, c, rfl, _⟩ := hs.ex
  have h3 : Below w1.heap.size w1 (w1.alloc (.cells #[.slice p l.length c, .int .i64 0] 100)) := (Below.refl _ _).alloc (Nat.le_refl _) _
  have hnew : (w1.alloc (.cells #[.slice p l.length c, .int .i64 0] 100)).heap[w1.heap.size]? = some (.cells #[.slice p l.length c, .int .i64 0] 100 (0, 0)) := heap_alloc_new w1 _
  have hz := h2.size
  have hsl := hs.below h3
  have hb4 : Below w.heap.size w (w1.alloc (.cells #[.slice p l.length c, .int .i64 0] 100)) := h2.trans (h3.mono hz)
  go_wp2
  go_ret
  cases p with
  | none => exact ⟨_, w1.heap.size + 1, _, rfl, hz, by omega, by omega, ⟨hnew, hsl, .inl rfl, hl⟩, hb4, .inr rfl⟩
  | some x =>
    have hlt := h1.lt x.block rfl
    exact ⟨_, x.block, _, rfl, hz, hlt.1, by omega, ⟨hnew, hsl, .inr rfl, hl⟩, hb4, .inl (Nat.lt_of_lt_of_le hlt.2 h3.size)⟩
end Go.Proofs.YtmlpijjjkpnioaaDoor.K
