import Derived.Test.YthphmeckcmhijaaDoorKnown
/-! The reference's reader. -/
namespace Go.Proofs.YthphmeckcmhijaaDoor
open Go.RowKit
set_option linter.unusedVariables false

/-- A reader at block br: l is left, error e; what is left lies in block gr. -/
structure Rm (W : World) (br gr : Nat) (v : Value) (l : List UInt8) (e : Nat) : Prop where
  blk : W.heap[br]? = some (.cells #[v, .int .i64 (e : Int)] 50 (0, 0))
  sl : Sl W v l
  own : v.ownBlock = none ∨ v.ownBlock = some gr
  len : l.length ≤ room
theorem Rm.lt {W : World} {br gr : Nat} {v : Value} {l : List UInt8} {e : Nat} (h : Rm W br gr v l e) : br < W.heap.size := (Array.getElem?_eq_some_iff.1 h.blk).1
theorem Rm.below {W W' : World} {br gr : Nat} {v : Value} {l : List UInt8} {e : Nat} (h : Rm W br gr v l e) (b : Below W.heap.size W W') : Rm W' br gr v l e := ⟨(b.block br h.lt).trans h.blk, h.sl.below b, h.own, h.len⟩
theorem Rm.c0 {W : World} {br gr : Nat} {v : Value} {l : List UInt8} {e : Nat} (h : Rm W br gr v l e) : W.cell? ⟨br, 0, none⟩ = some v := cell_of_row W br 0 _ _ _ h.blk
theorem Rm.c1 {W : World} {br gr : Nat} {v : Value} {l : List UInt8} {e : Nat} (h : Rm W br gr v l e) : W.cell? ⟨br, 1, none⟩ = some (.int .i64 (e : Int)) := cell_of_row W br 1 _ _ _ h.blk
theorem Rm.fz {W : World} {br gr : Nat} {v : Value} {l : List UInt8} {e : Nat} (h : Rm W br gr v l e) (j : Nat) : W.frozen? ⟨br, j, none⟩ = false := frozen_of_row W br j _ _ h.blk
/-- Bytes are kept by a store into the reader. -/
theorem Rm.keeps {W : World} {br gr : Nat} {v : Value} {l : List UInt8} {e : Nat} (h : Rm W br gr v l e) (j : Nat) (x : Value) {u : Value} {m : List UInt8} (hu : Sl W u m) : Sl (W.setCell ⟨br, j, none⟩ x) u m := by
  rcases hu with hu | ⟨a, c, rfl, hc, hu⟩
  · exact .inl hu
  · refine .inr ⟨a, c, rfl, hc, fun i b hi => ?_⟩
    have h1 := hu i b hi
    have hne : (a.add i).block ≠ br := by
      intro e2
      have hs := World.cell?_spot h1
      generalize hA : a.add i = A at *
      obtain ⟨ab, ao, sp⟩ := A
      simp only at e2 hs
      subst e2 hs
      rw [cell_of_row W ab ao _ _ _ h.blk] at h1
      obtain ⟨p, c2, rfl, _⟩ := h.sl.ex
      match ao, h1 with
      | 0, h1 => simp at h1
      | 1, h1 => simp at h1
      | n + 2, h1 => simp at h1
    rw [World.cell?_of_block (w := W) (heap_setCell_other W ⟨br, j, none⟩ (a.add i).block x hne)]
    exact h1
theorem Rm.setErr {W : World} {br gr : Nat} {v : Value} {l : List UInt8} {e : Nat} (h : Rm W br gr v l e) (e' : Nat) : Rm (W.setCell ⟨br, 1, none⟩ (.int .i64 (e' : Int))) br gr v l e' := by
  refine ⟨?_, h.keeps 1 _ h.sl, h.own, h.len⟩
  rw [heap_setCell_same W br 1 _ _ _ h.blk]; simp
theorem Rm.setLeft {W : World} {br gr : Nat} {v : Value} {l : List UInt8} {e : Nat} (h : Rm W br gr v l e) {v' : Value} {l' : List UInt8} (hs : Sl W v' l') (ho : v'.ownBlock = none ∨ v'.ownBlock = some gr) (hl : l'.length ≤ room) : Rm (W.setCell ⟨br, 0, none⟩ v') br gr v' l' e := by
  refine ⟨?_, h.keeps 0 _ hs, ho, hl⟩
  rw [heap_setCell_same W br 0 _ _ _ h.blk]; simp

def RTk (br gr : Nat) (w : World) (t : List UInt8 × List UInt8 × Nat) (r : Ending) (w' : World) : Prop := ∃ u v' ok, r = .returned (.tuple #[u, .bool ok]) ∧ Row w' w.heap.size u t.1 ∧ Rm w' br gr v' t.2.1 t.2.2 ∧ RStep br w w'
set_option maxHeartbeats 1000000 in
set_option maxRecDepth 100000 in
theorem rtake_any (br gr : Nat) (v : Value) (l : List UInt8) (e : Nat) (he : e < 1000) (n : Int) (w : World) (h : Rm w br gr v l e) :
    Calls Tryd.prog 37 #[.pointer (some ⟨br, 0, none⟩), .int .i64 n] w fun r w' => RTk br gr w (tk l e n) r w' := by
  have c1 := h.c1
  by_cases he0 : e = 0
  · subst he0
    by_cases hout : n < 0 ∨ (l.length : Int) < n
    · rw [tk_out hout]
      have hE := h.setErr 30
      have f1 := h.fz 1
      have c0 := h.c0
      obtain ⟨p, c, rfl, _⟩ := h.sl.ex
      have HH : Hid _ := hE
      clear hE
      by_cases hneg : n < 0
      · go_enter Tryd.func37, Tryd.ntmps37
        go_wp2
        go_ret2
        exact ⟨_, _, _, rfl, row_nil _ _, HH.out, RStep.of_set _ _ _⟩
      · have h2 : (l.length : Int) < n := by omega
        have h3 : 0 ≤ n := by omega
        go_enter Tryd.func37, Tryd.ntmps37
        go_wp2
        go_ret2
        exact ⟨_, _, _, rfl, row_nil _ _, HH.out, RStep.of_set _ _ _⟩
    · obtain ⟨k, rfl⟩ : ∃ k : Nat, n = (k : Int) := ⟨n.toNat, by omega⟩
      have hk : k ≤ l.length := by omega
      rw [tk_in k hk]
      have hlen := h.len
      have hb0 : Below w.heap.size w (w.alloc (.cells #[] 5)) := (Below.refl _ _).alloc (Nat.le_refl _) _
      have hr0 : Row (w.alloc (.cells #[] 5)) w.heap.size (.slice (some ⟨w.heap.size, 0, none⟩) 0 0) [] := row_of_alloc w w.heap.size (Nat.le_refl _) [] (by simp)
      have h1 := h.below hb0
      obtain ⟨p, c, hve, _⟩ := h.sl.ex
      subst hve
      have hlc : l.length ≤ c := by
        rcases h.sl with ⟨e, rfl⟩ | ⟨_, _, e, hc, _⟩
        · cases e; simp
        · cases e; exact hc
      have s1 := fun W => slice_to W p l.length c k (k : Int) rfl (by omega)
      have s2 := fun W => slice_from W p l.length c k (k : Int) rfl hk
      have hs1 := h1.sl.take k hk
      have c0 := h1.c0
      have ho := h.own
      have c00 := h.c0
      have i1 : (0 : Int) ≤ k := by omega
      have i2 : (k : Int) ≤ l.length := by omega
      have e0 : ((0 : Nat) : Int) = 0 := rfl
      go_enter Tryd.func37, Tryd.ntmps37
      go_wp2_with (first | (at_builtin; refine wpList_append_bytes _ rfl _ _ rfl w.heap.size _ [] rfl hr0 _ (l.take k) rfl hs1 (by simp; omega) hb0.size ?_))
      intro v' w2 hr2 hg2
      have hb2 : Below w.heap.size w w2 := hg2.belowAll (fun g e => (hr0.lt g e).1) hb0 (Nat.le_refl _)
      have h2 := h.below hb2
      have c0' := h2.c0
      have f0' := h2.fz 0
      have hD := h2.setLeft (h2.sl.drop k hk) (by rw [own_slice p l.length c]; exact ho) (by simp; omega)
      have hvb : ∀ g, v'.ownBlock = some g → g ≠ br := fun g e => by have h3 := (hr2.lt g e).1; have h4 := h.lt; omega
      have hrD : Row (w2.setCell ⟨br, 0, none⟩ (.slice (if c = k then p else p.map (·.add k)) (l.length - k) (c - k))) w.heap.size v' (l.take k) := by
        refine Row.kept (W := w2) (by simpa using hr2) fun g e _ => heap_setCell_other w2 ⟨br, 0, none⟩ g _ (hvb g e)
      have HD : Hid _ := hD
      have HR : Hid _ := hrD
      clear hD hrD hr2 hg2 hr0 hs1 h1 c0 hvb
      generalize hP : (if c = k then p else p.map (·.add k)) = P' at *
      go_wp2
      go_ret2
      exact ⟨_, _, _, rfl, HR.out, HD.out, (RStep.of_below hb2).trans (RStep.of_set _ _ _)⟩
  · rw [tk_err he0]
    have i1 : ((e : Int) != 0) = true := by simp; omega
    go_enter Tryd.func37, Tryd.ntmps37
    go_wp2
    go_ret2
    exact ⟨_, v, _, rfl, row_nil _ _, h, RStep.refl _ _⟩
theorem numL_step (m : List UInt8) (k : Nat) (hk : k < m.length) : numL (m.drop k) = 256 * numL (m.drop (k + 1)) + m[k].toNat := by
  rw [List.drop_eq_getElem_cons hk, numL]
set_option maxHeartbeats 1000000 in
set_option maxRecDepth 100000 in
theorem rfixed_any (br gr : Nat) (v : Value) (l : List UInt8) (e : Nat) (he : e < 1000) (n : Nat) (hn : n ≤ 4) (w : World) (h : Rm w br gr v l e) :
    Calls Tryd.prog 36 #[.pointer (some ⟨br, 0, none⟩), .int .i64 (n : Int)] w fun r w' => r = .returned (.int .u64 (numL (tk l e (n : Int)).1 : Int)) ∧ ∃ v', Rm w' br gr v' (tk l e (n : Int)).2.1 (tk l e (n : Int)).2.2 ∧ RStep br w w' := by
  have ht := rtake_any br gr v l e he (n : Int) w h
  have hlen := tk_len l e n
  generalize tk l e (n : Int) = t at *
  obtain ⟨m, l', e'⟩ := t
  simp only at ht hlen ⊢
  go_enter Tryd.func36, Tryd.ntmps36
  go_wp2_with fail
  refine ht.mono ?_
  rintro r w2 ⟨u, v', ok, rfl, hr, hR, hS⟩
  obtain ⟨p, c, rfl, hb⟩ := hr.sl.ex
  have HR : Hid _ := hR
  have HS : Hid _ := hS
  clear ht hR hS hr
  go_wp2_with fail
  go_loopw [7, 8] (fun x i wr => ∃ k : Nat, k ≤ m.length ∧ wr = w2 ∧ i = .int .i64 ((k : Int) - 1) ∧ x = .int .u64 (numL (m.drop k) : Int)) (fun _ i _ => (intOf i + 1).toNat)
  case atStart => exact ⟨m.length, by omega, rfl, rfl, by rw [List.drop_length]; rfl⟩
  case round =>
    obtain ⟨k, hk, rfl, rfl, rfl⟩ := hrel
    by_cases hk0 : 0 < k
    · obtain ⟨j, rfl⟩ : ∃ j, k = j + 1 := ⟨k - 1, by omega⟩
      obtain ⟨x, rfl, hc⟩ := hb.at j (m[j]) (by simp)
      have hst := numL_step m j (by omega)
      have hA := numL_lt (m.drop (j + 1))
      have hA2 : 2 ^ (8 * (m.drop (j + 1)).length) ≤ 2 ^ 32 := Nat.pow_le_pow_right (by decide) (by simp; omega)
      have hb8 := u8lt m[j]
      generalize hAe : numL (m.drop (j + 1)) = A at *
      generalize hBe : m[j].toNat = b at *
      have e1 : (((j + 1 : Nat) : Int) - 1) = (j : Int) := by omega
      rw [e1]
      have i1 : (0 : Int) ≤ (j : Int) := by omega
      have i2 : (j : Int) < m.length := by omega
      have hA3 : A < 4294967296 := by omega
      clear hA hA2 e1
      go_wp2
      go_roundw
      case rel => exact ⟨j, by omega, by trivial, by trivial, by rw [hst]; try simp⟩
      case measure => simp [intOf]
    · obtain rfl : k = 0 := by omega
      rw [List.drop_zero]
      go_wp2
      go_ret
      exact ⟨rfl, v', HR.out, HS.out⟩
end Go.Proofs.YthphmeckcmhijaaDoor
