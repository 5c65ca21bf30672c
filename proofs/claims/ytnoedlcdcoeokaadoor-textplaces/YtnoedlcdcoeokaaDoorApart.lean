import Derived.Test.YtnoedlcdcoeokaaDoorKeep
/-! The statement's own shelf: apart. -/
namespace Go.Proofs.YtnoedlcdcoeokaaDoor
open Go.RowKit
set_option linter.unusedVariables false

def mark (i : Nat) : Nat → Int := fun j => if j % 2 = 0 then -1000 - (i : Int) else 0

/-- Three lists on the shelf, and what each held. -/
structure Ap (B bk : Nat) (w0 W : World) (n : Nat) (bl : Nat → Nat) (T : Nat → Nat → Int) (gL capL gW capW : Nat) (ps : Nat → Option Addr) (cs : Nat → Nat) : Prop where
  below : Below B w0 W
  low : ∀ i, i < 3 → B ≤ bl i
  sh : W.heap[bk]? = some (.cells #[.slice (some ⟨gL, 0, none⟩) 3 capL, .slice (some ⟨gW, 0, none⟩) 3 capW] 42 (0, 0))
  L : ∀ i, i < 3 → W.cell? ⟨gL, i, none⟩ = some (.slice (some ⟨bl i, 0, none⟩) n n)
  gl : ∃ cur, W.heap[gL]? = some (.cells cur 24 (0, 0))
  R : ∀ i, i < 3 → W.cell? ⟨gW, i, none⟩ = some (.slice (ps i) n (cs i))
  rows : ∀ i, i < 3 → IRow W (bl i) 27 (T i) (n * 2)
  inj : ∀ i j, i < 3 → j < 3 → i ≠ j → bl i ≠ bl j
  cpy : ∀ i, i < 3 → Lst W (ps i) n (T i)
theorem Ap.nebk {B bk : Nat} {w0 W : World} {n : Nat} {bl : Nat → Nat} {T : Nat → Nat → Int} {gL capL gW capW : Nat} {ps : Nat → Option Addr} {cs : Nat → Nat} (h : Ap B bk w0 W n bl T gL capL gW capW ps cs) (i : Nat) (hi : i < 3) : bl i ≠ bk := by
  intro e
  have h1 := h.rows i hi
  unfold IRow at h1
  rw [e, h.sh] at h1; simp at h1
theorem Ap.negl {B bk : Nat} {w0 W : World} {n : Nat} {bl : Nat → Nat} {T : Nat → Nat → Int} {gL capL gW capW : Nat} {ps : Nat → Option Addr} {cs : Nat → Nat} (h : Ap B bk w0 W n bl T gL capL gW capW ps cs) (i : Nat) (hi : i < 3) : bl i ≠ gL := by
  intro e
  have h1 := h.rows i hi
  obtain ⟨cur, h2⟩ := h.gl
  unfold IRow at h1
  rw [e, h2] at h1; simp at h1

/-- The rows while they are written over: those before i are full, of row i the first j. -/
def Wr (W : World) (n : Nat) (bl : Nat → Nat) (T : Nat → Nat → Int) (i j : Nat) : Prop :=
  ∀ x, x < 3 → IRow W (bl x) 27 (fun y => if x < i ∨ (x = i ∧ y < j * 2) then mark x y else T x y) (n * 2)
/-- Nothing but the rows has turned. -/
structure Kp (W W' : World) (bl : Nat → Nat) : Prop where
  size : W'.heap.size = W.heap.size
  block : ∀ k, (∀ x, x < 3 → k ≠ bl x) → W'.heap[k]? = W.heap[k]?
  os : W'.os = W.os
  tape : W'.tape = W.tape
  output : W'.output = W.output

def mkL (k m : Nat) : List Value := (List.range (m * 2)).map fun j => Value.int .i64 (mark k j)
theorem mkL_succ (k m : Nat) : mkL k (m + 1) = mkL k m ++ [.int .i64 (-1000 - (k : Int)), .int .i64 0] := by
  unfold mkL
  have e : (m + 1) * 2 = m * 2 + 1 + 1 := by omega
  rw [e, List.range_succ, List.range_succ]
  have h1 : (m * 2) % 2 = 0 := by omega
  simp [mark]
/-- A longer list: all marks. -/
def Long (W : World) (n k : Nat) (v : Value) : Prop := ∃ g cap cur, v = .slice (some ⟨g, 0, none⟩) n cap ∧ W.heap[g]? = some (.cells cur 27 (0, 0)) ∧ ∀ j, j < n * 2 → cur[j]? = some (.int .i64 (mark k j))
theorem Long.kept {W W' : World} {n k : Nat} {v : Value} (h : Long W n k v) (hk : ∀ (g : Nat) (cur : Array Value), W.heap[g]? = some (.cells cur 27 (0, 0)) → W'.heap[g]? = some (.cells cur 27 (0, 0))) : Long W' n k v := by
  obtain ⟨g, cap, cur, e, hg, hc⟩ := h
  exact ⟨g, cap, cur, e, hk g cur hg, hc⟩
theorem long_of {W : World} {B n k : Nat} {v : Value} (h : W.ownsRow B 27 2 v n (mkL k n)) (h0 : 0 < n) : Long W n k v := by
  have h' := h
  rcases h.2 with ⟨_, e⟩ | ⟨x, cap, cur, rfl, _, hx, _⟩
  · omega
  · refine ⟨x, cap, cur, rfl, hx, fun j hj => ?_⟩
    have := h'.cellAt j hj
    rw [cell_of_row W x j _ _ _ hx] at this
    rw [this]; simp [mkL, hj]
theorem rowm (W : World) (b n k : Nat) (hr : IRow W b 27 (mark k) (n * 2)) : ∀ j u, (mkL k n)[j]? = some u → W.cell? ((⟨b, 0, none⟩ : Addr).add j) = some u := rowl W b n (mark k) hr W rfl

set_option maxHeartbeats 2000000 in
set_option maxRecDepth 100000 in
theorem apart_any (B bk : Nat) (w0 W : World) (n : Nat) (hn : n ≤ 60) (bl : Nat → Nat) (T : Nat → Nat → Int) (gL capL gW capW : Nat) (ps : Nat → Option Addr) (cs : Nat → Nat) (h : Ap B bk w0 W n bl T gL capL gW capW ps cs) :
    Calls Tryd.prog 20 #[.pointer (some ⟨bk, 0, none⟩)] W fun e w' => e = .returned (.bool true) ∧ Below B w0 w' := by
  have cL : W.cell? ⟨bk, 0, none⟩ = some (.slice (some ⟨gL, 0, none⟩) 3 capL) := cell_of_row W bk 0 _ _ _ h.sh
  have cW : W.cell? ⟨bk, 1, none⟩ = some (.slice (some ⟨gW, 0, none⟩) 3 capW) := cell_of_row W bk 1 _ _ _ h.sh
  have H : Hid _ := h
  clear h
  go_enter Tryd.func20, Tryd.ntmps20
  go_wp2_with fail
  go_loopw [3] (fun i wr => ∃ k q : Nat, k ≤ 3 ∧ i = .int .i64 (k : Int) ∧ wr = W.drewN q) (fun i _ => 3 - (intOf i).toNat)
  case atStart => exact ⟨0, 0, by omega, rfl, rfl⟩
  case round =>
    obtain ⟨k, q, hk, rfl, rfl⟩ := hrel
    by_cases hlt : k < 3
    · have a1 : (W.drewN q).cell? ⟨gL, k, none⟩ = some (.slice (some ⟨bl k, 0, none⟩) n n) := H.out.L k hlt
      have a2 : (W.drewN q).cell? ⟨gW, k, none⟩ = some (.slice (ps k) n (cs k)) := H.out.R k hlt
      have a3 : (W.drewN q).cell? ⟨bk, 0, none⟩ = some (.slice (some ⟨gL, 0, none⟩) 3 capL) := cL
      have a4 : (W.drewN q).cell? ⟨bk, 1, none⟩ = some (.slice (some ⟨gW, 0, none⟩) 3 capW) := cW
      have hS := fun q' => same_yes (some ⟨bl k, 0, none⟩) (ps k) n n (cs k) (by omega) (T k) ((W.drewN q).drewN q') (Lst.of_row (H.out.rows k hlt)) (H.out.cpy k hlt)
      have HQ : Hid (∀ q', ∃ q2, (W.drewN q).drewN q' = W.drewN q2) := fun q' => ⟨q + q', World.drewN_drewN _ _ _⟩
      have i0 : (0 : Int) ≤ (k : Int) := by omega
      have i1 : (k : Int) < 3 := by omega
      generalize W.drewN q = Wq at *
      go_wp2_with fail
      go_quiet ((go_at_call 15; exact Calls.quiet_of (hS _)))
      go_wp2_with fail
      go_roundw
      case rel =>
        obtain ⟨q2, hq2⟩ := HQ.out _
        exact ⟨k + 1, q2, by omega, by go_num, hq2⟩
      case measure => simp [intOf]; omega
    · obtain rfl : k = 3 := by omega
      go_wp2_with fail
      have w00 : Wr (W.drewN q) n bl T 0 0 := fun x hx => (H.out.rows x hx).congr (fun y _ => by simp)
      have k00 : Kp W (W.drewN q) bl := ⟨rfl, fun _ _ => rfl, rfl, rfl, rfl⟩
      go_loopw [4] (fun i wr => ∃ k : Nat, k ≤ 3 ∧ i = .int .i64 (k : Int) ∧ Wr wr n bl T k 0 ∧ Kp W wr bl) (fun i _ => 3 - (intOf i).toNat)
      case atStart => exact ⟨0, by omega, rfl, w00, k00⟩
      case round =>
        clear w00 k00
        obtain ⟨k, hk, rfl, hw, hkp⟩ := hrel
        have dL : wr.cell? ⟨bk, 0, none⟩ = some (.slice (some ⟨gL, 0, none⟩) 3 capL) := by rw [World.cell?_of_block (w := W) (hkp.block bk (fun x hx e => H.out.nebk x hx e.symm))]; exact cL
        by_cases hlt : k < 3
        · have i0 : (0 : Int) ≤ (k : Int) := by omega
          have i1 : (k : Int) < 3 := by omega
          go_wp2_with fail
          go_loopw [5] (fun j w3 => ∃ y : Nat, y ≤ n ∧ j = .int .i64 (y : Int) ∧ Wr w3 n bl T k y ∧ Kp W w3 bl) (fun j _ => n - (intOf j).toNat)
          case atStart => exact ⟨0, by omega, rfl, hw, hkp⟩
          case round =>
            clear hw hkp dL
            obtain ⟨y, hy, rfl, hw, hkp⟩ := hrel
            have dL : wr.cell? ⟨bk, 0, none⟩ = some (.slice (some ⟨gL, 0, none⟩) 3 capL) := by rw [World.cell?_of_block (w := W) (hkp.block bk (fun x hx e => H.out.nebk x hx e.symm))]; exact cL
            have dE : wr.cell? ⟨gL, k, none⟩ = some (.slice (some ⟨bl k, 0, none⟩) n n) := by rw [World.cell?_of_block (w := W) (hkp.block gL (fun x hx e => H.out.negl x hx e.symm))]; exact H.out.L k hlt
            by_cases hy1 : y < n
            · have hrow := hw k hlt
              have p0 := hrow.cell (y * 2) (by omega)
              have p1 := hrow.cell (y * 2 + 1) (by omega)
              have z0 := hrow.frozen (y * 2)
              have z1 := hrow.frozen (y * 2 + 1)
              have j0 : (0 : Int) ≤ (y : Int) := by omega
              have j1 : (y : Int) < (n : Int) := by omega
              have hw2 : Wr ((wr.setCell ⟨bl k, y * 2, none⟩ (.int .i64 (-1000 - (k : Int)))).setCell ⟨bl k, y * 2 + 1, none⟩ (.int .i64 0)) n bl T k (y + 1) := by
                intro x hx
                by_cases e : x = k
                · subst e
                  refine ((hrow.store (y * 2) (-1000 - (x : Int))).store (y * 2 + 1) 0).congr fun v hv => ?_
                  unfold upd
                  by_cases e1 : v = y * 2 + 1
                  · have m1 : ¬ (y * 2 + 1) % 2 = 0 := by omega
                    have m2 : y * 2 + 1 < (y + 1) * 2 := by omega
                    simp [e1, mark, m2]
                  · by_cases e2 : v = y * 2
                    · have m1 : (y * 2) % 2 = 0 := by omega
                      have m2 : y * 2 < (y + 1) * 2 := by omega
                      simp [e2, mark, m2]
                    · have m3 : (v < (y + 1) * 2) = (v < y * 2) := by apply propext; omega
                      simp [e1, e2, m3]
                · have hb : bl x ≠ bl k := H.out.inj x k hx hlt e
                  have h1 := hw x hx
                  have h2 : IRow ((wr.setCell ⟨bl k, y * 2, none⟩ (.int .i64 (-1000 - (k : Int)))).setCell ⟨bl k, y * 2 + 1, none⟩ (.int .i64 0)) (bl x) 27 _ (n * 2) := h1.kept (by rw [Below.heap_setCell _ _ _ _ (by exact hb), Below.heap_setCell _ _ _ _ (by exact hb)])
                  exact h2.congr fun v _ => by simp [e]
              have hkp2 : Kp W ((wr.setCell ⟨bl k, y * 2, none⟩ (.int .i64 (-1000 - (k : Int)))).setCell ⟨bl k, y * 2 + 1, none⟩ (.int .i64 0)) bl :=
                ⟨by simp [hkp.size], fun z hz => by rw [Below.heap_setCell _ _ _ _ (by exact hz k hlt), Below.heap_setCell _ _ _ _ (by exact hz k hlt)]; exact hkp.block z hz, hkp.os, hkp.tape, hkp.output⟩
              have HH : Hid (Wr ((wr.setCell ⟨bl k, y * 2, none⟩ (.int .i64 (-1000 - (k : Int)))).setCell ⟨bl k, y * 2 + 1, none⟩ (.int .i64 0)) n bl T k (y + 1) ∧ Kp W ((wr.setCell ⟨bl k, y * 2, none⟩ (.int .i64 (-1000 - (k : Int)))).setCell ⟨bl k, y * 2 + 1, none⟩ (.int .i64 0)) bl) := ⟨hw2, hkp2⟩
              clear hw2 hkp2 hw hkp hrow
              generalize (if k < k ∨ (k = k ∧ y * 2 < y * 2) then mark k (y * 2) else T k (y * 2)) = o0 at p0
              generalize (if k < k ∨ (k = k ∧ y * 2 + 1 < y * 2) then mark k (y * 2 + 1) else T k (y * 2 + 1)) = o1 at p1
              go_wp2_with fail
              go_roundw
              case rel => exact ⟨y + 1, by omega, by go_num, HH.out.1, HH.out.2⟩
              case measure => simp [intOf]; omega
            · obtain rfl : y = n := by omega
              have j1 : ¬ (y : Int) < (y : Int) := by omega
              have hw2 : Wr wr y bl T (k + 1) 0 := fun x hx => (hw x hx).congr fun v hv => by
                by_cases e : x = k
                · subst e; simp [hv]
                · have m : (x < k + 1) = (x < k) := by apply propext; omega
                  simp [e, m]
              go_wp2_with fail
              go_roundw
              case rel => exact ⟨k + 1, by omega, by go_num, hw2, hkp⟩
              case measure => simp [intOf]; omega
        · obtain rfl : k = 3 := by omega
          have dE : ∀ i, i < 3 → wr.cell? ⟨gL, i, none⟩ = some (.slice (some ⟨bl i, 0, none⟩) n n) := fun i hi => by rw [World.cell?_of_block (w := W) (hkp.block gL (fun x hx e => H.out.negl x hx e.symm))]; exact H.out.L i hi
          have rows : ∀ i, i < 3 → IRow wr (bl i) 27 (mark i) (n * 2) := fun i hi => (hw i hi).congr fun v _ => by simp [hi]
          have hBw : Below B w0 wr := H.out.below.trans ⟨hkp.os, hkp.tape, hkp.output, by rw [hkp.size]; exact Nat.le_refl _, fun k hk => hkp.block k (fun x hx e => by have := H.out.low x hx; omega)⟩
          have hBz : B ≤ wr.heap.size := by have := H.out.low 0 (by omega); have := (rows 0 (by omega)).lt; omega
          have RR : Hid _ := rows
          have EE : Hid _ := dE
          clear rows dE hw hkp hlt hk H cL cW
          obtain ⟨i0, hi, hz0, hz1, hz2⟩ := info_parts info24
          obtain ⟨i1, ji, jz0, jz1, jz2⟩ := info_parts info27
          go_wp2_with fail
          generalize wr = W4 at *
          go_loopw [6, 7] (fun v i wr => ∃ (k : Nat) (lg : List Value), k ≤ 3 ∧ i = .int .i64 (k : Int) ∧ wr.ownsRow W4.heap.size 24 1 v k lg ∧ Below W4.heap.size W4 wr ∧ ∀ x, x < k → ∃ v, lg[x]? = some v ∧ Long wr (n + 80) x v) (fun _ i _ => 3 - (intOf i).toNat)
          case atStart => exact ⟨0, [], by omega, rfl, World.ownsRow_nil _ _ _ _, Below.refl _ _, fun x hx => by omega⟩
          case round =>
            obtain ⟨k, lg, hk, rfl, hown, hbel, hlong⟩ := hrel
            have eL : wr.cell? ⟨bk, 0, none⟩ = some (.slice (some ⟨gL, 0, none⟩) 3 capL) := by rw [hbel.cell (p := ⟨bk, 0, none⟩) (World.block_lt_of_cell? W4 _ dL)]; exact dL
            have hz4 := hbel.size
            by_cases hlt : k < 3
            · have eE : wr.cell? ⟨gL, k, none⟩ = some (.slice (some ⟨bl k, 0, none⟩) n n) := by
                have := EE.out k hlt
                rw [hbel.cell (p := ⟨gL, k, none⟩) (World.block_lt_of_cell? W4 _ this)]; exact this
              have hrow : IRow wr (bl k) 27 (mark k) (n * 2) := (RR.out k hlt).kept (hbel.block _ (RR.out k hlt).lt)
              have n0 : (0 : Int) ≤ (k : Int) := by omega
              have n1 : (k : Int) < 3 := by omega
              go_wp2_with fail
              generalize wr = W5 at *
              generalize hBx : W5.heap.size = Bx
              go_loopw [8, 9] (fun v j w5 => ∃ y : Nat, y ≤ 80 ∧ j = .int .i64 (y : Int) ∧ Below Bx W5 w5 ∧ ((y = 0 ∧ v = .slice (some ⟨bl k, 0, none⟩) n n) ∨ (0 < y ∧ w5.ownsRow Bx 27 2 v (n + y) (mkL k (n + y))))) (fun _ j _ => 80 - (intOf j).toNat)
              case atStart => exact ⟨0, by omega, rfl, Below.refl _ _, .inl ⟨rfl, rfl⟩⟩
              case round =>
                obtain ⟨y, hy, rfl, hb5, hv⟩ := hrel
                have hz5 : Bx ≤ wr.heap.size := by have := hb5.size; omega
                have HS : Hid (mkL k (n + y + 1) = mkL k (n + y) ++ [.int .i64 (-1000 - (k : Int)), .int .i64 0]) := mkL_succ k (n + y)
                by_cases hy1 : y < 80
                · have y0 : (0 : Int) ≤ (y : Int) := by omega
                  have y1 : (y : Int) < 80 := by omega
                  rcases hv with ⟨rfl, rfl⟩ | ⟨hy0, hownx⟩
                  · have hrow5 : IRow (wr.alloc (.cells #[.int .i64 (-1000 - (k : Int)), .int .i64 0] 27)) (bl k) 27 (mark k) (n * 2) := (hrow.kept (hb5.block _ (by rw [← hBx]; exact hrow.lt))).kept (Below.heap_alloc _ _ _ (by have := hrow.lt; omega))
                    go_wp2_with (first | (at_builtin; refine wpList_append_grows _ rfl _ _ 24 rfl 27 i1 (.agg #[.int .i64 0, .int .i64 0]) 2 16 Tryd.underlying24 ji jz0 jz1 jz2 rfl (by decide) (some ⟨bl k, 0, none⟩) n n (mkL k n) rfl (by simp) (by simp [mkL]) ?d1 ⟨wr.heap.size, 0, none⟩ 1 1 [.int .i64 (-1000 - (k : Int)), .int .i64 0] rfl rfl ?c1 ?c2 (by omega) (by unfold maxLen; omega) (by omega) ?_))
                    case d1 =>
                      intro a ha
                      cases ha
                      exact rowm _ (bl k) n k hrow5
                    case c1 =>
                      intro j u hj
                      match j, hj with
                      | 0, hj => simp at hj; subst hj; simp [Addr.add]
                      | 1, hj => simp at hj; subst hj; simp [Addr.add]
                    case c2 => intro u hu; simp at hu; rcases hu with rfl | rfl <;> rfl
                    intro v' w6 hown6 hgrow6
                    have hb6 : Below Bx W5 w6 := (hb5.alloc hz5 _).grown hgrow6 (by simp; omega) (fun j hj => by cases hj)
                    have ho6 : w6.ownsRow Bx 27 2 v' (n + (0 + 1)) (mkL k (n + (0 + 1))) := by
                      have e : n + (0 + 1) = n + 0 + 1 := by omega
                      rw [e, HS.out]
                      exact own_mono hown6 (by first | omega | (simp; omega))
                    clear hown6 hgrow6 hb5 hrow5
                    go_wp2_with fail
                    go_roundw
                    case rel =>
                      (repeat apply Exists.intro)
                      refine ⟨⟨0 + 1, by omega, ?_, hb6, .inr ⟨by omega, ho6⟩⟩, rfl⟩
                      go_num
                    case measure => simp [intOf]
                  · go_wp2_with (first | (at_builtin; refine wpList_append_own _ rfl _ _ 24 rfl Bx 27 i1 (.agg #[.int .i64 0, .int .i64 0]) 2 16 Tryd.underlying24 ji jz0 jz1 jz2 rfl (by decide) _ _ _ rfl (hownx.alloc _) ⟨wr.heap.size, 0, none⟩ 1 1 [.int .i64 (-1000 - (k : Int)), .int .i64 0] rfl rfl ?c1 ?c2 ?c3 ?c4 ?c5 ?_))
                    case c1 =>
                      intro j u hj
                      match j, hj with
                      | 0, hj => simp at hj; subst hj; simp [Addr.add]
                      | 1, hj => simp at hj; subst hj; simp [Addr.add]
                    case c2 => intro u hu; simp at hu; rcases hu with rfl | rfl <;> rfl
                    case c3 => unfold maxLen; omega
                    case c4 => omega
                    case c5 => simp; omega
                    intro v' w6 hown6 hgrow6 _
                    have hb6 : Below Bx W5 w6 := (hb5.alloc hz5 _).grown hgrow6 (by simp; omega) (fun j hj => (hownx.lt j hj).1)
                    have ho6 : w6.ownsRow Bx 27 2 v' (n + (y + 1)) (mkL k (n + (y + 1))) := by
                      have e : n + (y + 1) = n + y + 1 := by omega
                      rw [e, HS.out]
                      exact hown6
                    clear hown6 hgrow6 hb5 hownx
                    go_wp2_with fail
                    go_roundw
                    case rel =>
                      (repeat apply Exists.intro)
                      refine ⟨⟨y + 1, by omega, ?_, hb6, .inr ⟨by omega, ho6⟩⟩, rfl⟩
                      go_num
                    case measure => simp [intOf]; omega
                · obtain rfl : y = 80 := by omega
                  rcases hv with ⟨e, _⟩ | ⟨_, hownx⟩
                  · omega
                  have hlx := long_of hownx (by omega)
                  obtain ⟨gx, cx, curx, rfl, hgx, hcx⟩ := hlx
                  have hown5 : wr.ownsRow W4.heap.size 24 1 _ k lg := own_below hown (hBx ▸ hb5)
                  have hlong5 : ∀ x, x < k → ∃ v, lg[x]? = some v ∧ Long wr (n + 80) x v := fun x hx => by
                    obtain ⟨v, h1, h2⟩ := hlong x hx
                    exact ⟨v, h1, h2.kept fun g cur hg => (hb5.block g (by have := (Array.getElem?_eq_some_iff.1 hg).1; omega)).trans hg⟩
                  have hLx : Long wr (n + 80) k (.slice (some ⟨gx, 0, none⟩) (n + 80) cx) := ⟨gx, cx, curx, rfl, hgx, hcx⟩
                  have hb5' : Below W4.heap.size W4 wr := hbel.trans ((hBx ▸ hb5 : Below W5.heap.size W5 wr).mono hz4)
                  have y2 : ¬ ((80 : Nat) : Int) < 80 := by omega
                  clear hownx hlong hown hbel hb5
                  go_wp2_with (first | (at_builtin; refine wpList_append_own _ rfl _ _ 40 rfl W4.heap.size 24 i0 (.slice none 0 0) 1 24 Tryd.underlying40 hi hz0 hz1 hz2 rfl (by decide) _ _ _ rfl (hown5.alloc _) ⟨wr.heap.size, 0, none⟩ 1 1 [.slice (some ⟨gx, 0, none⟩) (n + 80) cx] rfl rfl ?c1 ?c2 ?c3 ?c4 ?c5 ?_))
                  case c2 => rfl
                  case c3 => unfold maxLen; omega
                  case c4 => omega
                  case c5 => have := hb5'.size; simp; omega
                  intro v' w6 hown6 hgrow6 _
                  have hz6 := hb5'.size
                  have hb6 : Below W4.heap.size W4 w6 := (hb5'.alloc hz6 _).grown hgrow6 (by simp; omega) (fun j hj => (hown5.lt j hj).1)
                  have hkt : KeepsT wr w6 := (KeepsT.alloc wr _).trans (KeepsT.grown (hown5.alloc _) hgrow6)
                  have hlong6 : ∀ x, x < k + 1 → ∃ v, (lg ++ [.slice (some ⟨gx, 0, none⟩) (n + 80) cx])[x]? = some v ∧ Long w6 (n + 80) x v := fun x hx => by
                    have hll : lg.length = k := by have := hown5.1; simpa using this
                    by_cases e : x = k
                    · subst e
                      exact ⟨_, by rw [List.getElem?_append_right (by omega)]; simp [hll], hLx.kept fun g cur hg => hkt g cur 27 _ hg (by decide) (by decide)⟩
                    · obtain ⟨v, h1, h2⟩ := hlong5 x (by omega)
                      exact ⟨v, by rw [List.getElem?_append_left (by omega)]; exact h1, h2.kept fun g cur hg => hkt g cur 27 _ hg (by decide) (by decide)⟩
                  clear hgrow6 hlong5 hLx hkt hown5
                  go_wp2_with fail
                  go_roundw
                  case rel =>
                    (repeat apply Exists.intro)
                    refine ⟨⟨k + 1, _, by omega, ?_, hown6, hb6, hlong6⟩, rfl⟩
                    go_num
                  case measure => simp [intOf]; omega
            · obtain rfl : k = 3 := by omega
              obtain ⟨gV, capV, rfl⟩ := own_pos hown (by omega)
              have vE : ∀ x, x < 3 → ∃ gx cx, wr.cell? ⟨gV, x, none⟩ = some (.slice (some ⟨gx, 0, none⟩) (n + 80) cx) ∧ ∀ j, j < (n + 80) * 2 → wr.cell? ⟨gx, j, none⟩ = some (.int .i64 (mark x j)) := fun x hx => by
                obtain ⟨v, h1, gx, cx, cur, rfl, h2, h3⟩ := hlong x hx
                exact ⟨gx, cx, by rw [hown.cellAt x (by omega)]; exact h1, fun j hj => by rw [cell_of_row wr gx j _ _ _ h2, h3 j hj]⟩
              have lE : ∀ x, x < 3 → wr.cell? ⟨gL, x, none⟩ = some (.slice (some ⟨bl x, 0, none⟩) n n) := fun x hx => by
                have := EE.out x hx
                rw [hbel.cell (p := ⟨gL, x, none⟩) (World.block_lt_of_cell? W4 _ this)]; exact this
              have rE : ∀ x, x < 3 → ∀ j, j < n * 2 → wr.cell? ⟨bl x, j, none⟩ = some (.int .i64 (mark x j)) := fun x hx j hj => ((RR.out x hx).kept (hbel.block _ (RR.out x hx).lt)).cell j hj
              have VE : Hid _ := vE
              have LE : Hid _ := lE
              have RE : Hid _ := rE
              have hB7 : Below B w0 wr := hBw.trans (hbel.mono hBz)
              have hz7 := hB7.size
              clear vE lE rE hlong hown EE RR hi hz0 hz1 hz2 ji jz0 jz1 jz2 hlt hk
              have hBz7 : B ≤ wr.heap.size := by omega
              go_wp2_with fail
              clear hbel hBw
              generalize wr = W7 at *
              go_loopw [10] (fun i wr => ∃ k : Nat, k ≤ 3 ∧ i = .int .i64 (k : Int) ∧ Below W7.heap.size W7 wr) (fun i _ => 3 - (intOf i).toNat)
              case atStart => exact ⟨0, by omega, rfl, Below.refl _ _⟩
              case round =>
                obtain ⟨k, hk, rfl, hb⟩ := hrel
                have fL : wr.cell? ⟨bk, 0, none⟩ = some (.slice (some ⟨gL, 0, none⟩) 3 capL) := by rw [hb.cell (p := ⟨bk, 0, none⟩) (World.block_lt_of_cell? W7 _ eL)]; exact eL
                by_cases hlt : k < 3
                · obtain ⟨gx, cx, hvk, hxk⟩ := VE.out k hlt
                  have hlk := LE.out k hlt
                  have hrk := RE.out k hlt
                  have XK : Hid _ := hxk
                  have RK : Hid _ := hrk
                  clear hxk hrk
                  have n0 : (0 : Int) ≤ (k : Int) := by omega
                  have n1 : (k : Int) < 3 := by omega
                  go_wp2_with fail
                  go_loopw [11] (fun j w8 => ∃ y : Nat, y ≤ n + 80 ∧ j = .int .i64 (y : Int) ∧ Below W7.heap.size W7 w8) (fun j _ => n + 80 - (intOf j).toNat)
                  case atStart => exact ⟨0, by omega, rfl, hb⟩
                  case round =>
                    clear hb fL
                    obtain ⟨y, hy, rfl, hb⟩ := hrel
                    have hzz := hb.size
                    have hold : ∀ (p : Addr) (v : Value), W7.cell? p = some v → wr.cell? p = some v := fun p v h => by rw [hb.cell (World.block_lt_of_cell? W7 p h)]; exact h
                    have fV := hold _ _ hvk
                    have j0 : (0 : Int) ≤ (y : Int) := by omega
                    by_cases hy1 : y < n + 80
                    · have hall : ∀ (p : Addr) (v : Value), W7.cell? p = some v → (wr.alloc (.cells #[.int .i64 (-1000 - (k : Int)), .int .i64 0] 27)).cell? p = some v := fun p v h => by
                        have h1 := hold p v h
                        have hl := World.block_lt_of_cell? wr p h1
                        rw [World.cell?_of_block (w := wr) (Below.heap_alloc wr _ p.block hl)]; exact h1
                      have g0 : (wr.alloc (.cells #[.int .i64 (-1000 - (k : Int)), .int .i64 0] 27)).cell? ⟨gV, k, none⟩ = some (.slice (some ⟨gx, 0, none⟩) (n + 80) cx) := hall _ _ hvk
                      have m0 : mark k (y * 2) = -1000 - (k : Int) := by have : y * 2 % 2 = 0 := by omega
                                                                         simp [mark]
                      have m1 : mark k (y * 2 + 1) = 0 := by have : ¬ (y * 2 + 1) % 2 = 0 := by omega
                                                             simp [mark]
                      have g1 : (wr.alloc (.cells #[.int .i64 (-1000 - (k : Int)), .int .i64 0] 27)).cell? ⟨gx, y * 2, none⟩ = some (.int .i64 (-1000 - (k : Int))) := (hall _ _ (XK.out (y * 2) (by omega))).trans (by rw [m0])
                      have g2 : (wr.alloc (.cells #[.int .i64 (-1000 - (k : Int)), .int .i64 0] 27)).cell? ⟨gx, y * 2 + 1, none⟩ = some (.int .i64 0) := (hall _ _ (XK.out (y * 2 + 1) (by omega))).trans (by rw [m1])
                      have g3 : (wr.alloc (.cells #[.int .i64 (-1000 - (k : Int)), .int .i64 0] 27)).cell? ⟨bk, 0, none⟩ = some (.slice (some ⟨gL, 0, none⟩) 3 capL) := hall _ _ eL
                      have g4 : (wr.alloc (.cells #[.int .i64 (-1000 - (k : Int)), .int .i64 0] 27)).cell? ⟨gL, k, none⟩ = some (.slice (some ⟨bl k, 0, none⟩) n n) := hall _ _ hlk
                      have j1 : (y : Int) < (n : Int) + 80 := by omega
                      have HB : Hid (Below W7.heap.size W7 (wr.alloc (.cells #[.int .i64 (-1000 - (k : Int)), .int .i64 0] 27))) := hb.alloc hzz _
                      by_cases hyn : y < n
                      · have g5 : (wr.alloc (.cells #[.int .i64 (-1000 - (k : Int)), .int .i64 0] 27)).cell? ⟨bl k, y * 2, none⟩ = some (.int .i64 (-1000 - (k : Int))) := (hall _ _ (RK.out (y * 2) (by omega))).trans (by rw [m0])
                        have g6 : (wr.alloc (.cells #[.int .i64 (-1000 - (k : Int)), .int .i64 0] 27)).cell? ⟨bl k, y * 2 + 1, none⟩ = some (.int .i64 0) := (hall _ _ (RK.out (y * 2 + 1) (by omega))).trans (by rw [m1])
                        have j2 : (y : Int) < (n : Int) := by omega
                        clear hall hold m0 m1 hb
                        go_wp2_with fail
                        go_quiet (fail)
                        go_wp2_with fail
                        exact ⟨⟨y + 1, by omega, by go_num, HB.out.trans ⟨rfl, rfl, rfl, Nat.le_refl _, fun _ _ => rfl⟩⟩, by simp [intOf]; omega⟩
                      · have j2 : decide ((y : Int) < (n : Int)) = false := by simp; omega
                        clear hall hold m0 m1 hb
                        go_wp2_with fail
                        go_quiet (fail)
                        go_wp2_with fail
                        exact ⟨⟨y + 1, by omega, by go_num, HB.out.trans ⟨rfl, rfl, rfl, Nat.le_refl _, fun _ _ => rfl⟩⟩, by simp [intOf]; omega⟩
                    · obtain rfl : y = n + 80 := by omega
                      have j1 : ¬ ((n : Int) + 80) < (n : Int) + 80 := by omega
                      clear hold
                      go_wp2_with fail
                      go_roundw
                      case rel =>
                        first
                          | exact ⟨k + 1, by omega, by go_num, hb⟩
                          | ((repeat apply Exists.intro); refine ⟨⟨k + 1, by omega, ?_, hb⟩, rfl⟩; go_num)
                      case measure => simp [intOf]; omega
                · obtain rfl : k = 3 := by omega
                  go_wp2_with fail
                  go_ret
                  exact ⟨rfl, hB7.trans (hb.mono hBz7)⟩
end Go.Proofs.YtnoedlcdcoeokaaDoor
