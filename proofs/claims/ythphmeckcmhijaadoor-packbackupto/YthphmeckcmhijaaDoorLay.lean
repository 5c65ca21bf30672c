import Derived.Test.YthphmeckcmhijaaDoorRefW
import Derived.Test.YthphmeckcmhijaaDoorSumsWalk
/-! lay: one call of a writer. -/
namespace Go.Proofs.YthphmeckcmhijaaDoor
open Go.RowKit
set_option linter.unusedVariables false

/-- What one call lays down. -/
def layOf (k n : Int) (m : List UInt8) : List UInt8 :=
  if k = 1 then low 1 (n % 18446744073709551616).toNat else if k = 2 then low 2 (n % 18446744073709551616).toNat else if k = 3 then low 4 (n % 18446744073709551616).toNat else if k = 4 then m else if k = 5 then form (n % 4294967296).toNat else []
theorem Sl.toBelow {W0 W : World} {v : Value} {l : List UInt8} (h : Sl W0 v l) (b : Below W0.heap.size W0 W) : Sl W v l := h.below b
theorem form_len : ∀ (k x : Nat), x < 2 ^ (7 * k) → (form x).length ≤ max k 1 := by
  intro k
  induction k with
  | zero => intro x hx; simp at hx; subst hx; rw [form_lt (by decide)]; simp
  | succ k ih =>
    intro x hx
    by_cases h : x < 128
    · rw [form_lt h]; simp
    · rw [form_ge h]
      have hk : x / 128 < 2 ^ (7 * k) := by
        rw [show 7 * (k + 1) = 7 * k + 7 by omega, Nat.pow_add] at hx
        omega
      have := ih _ hk
      have hk0 : k ≠ 0 := by
        rintro rfl
        simp at hx; omega
      simp; omega
theorem form_len5 (n : Int) : (form (n % 4294967296).toNat).length ≤ 5 := by
  have := form_len 5 (n % 4294967296).toNat (by omega)
  simpa using this
theorem row_cell {W : World} {B g n cap : Nat} {l : List UInt8} (h : Row W B (.slice (some ⟨g, 0, none⟩) n cap) l) (j : Nat) (hj : j < l.length) : W.cell? ⟨g, j, none⟩ = some (.int .u8 (l[j].toNat : Int)) := by
  obtain ⟨p, c, e, hbs⟩ := h.sl.ex
  obtain ⟨y, hy, hcy⟩ := hbs.at j (l[j]) (by simp)
  simp only [Value.slice.injEq] at e
  rw [← e.1] at hy
  cases hy
  rw [Addr.add_lit] at hcy
  simpa using hcy
/-- What every call of lay keeps. -/
structure LSt (W0 W : World) (bw : Nat) (v : Value) (l : List UInt8) : Prop where
  below : Below W0.heap.size W0 W
  wr : Wr W W0.heap.size bw v l
  low : W0.heap.size ≤ bw
theorem LSt.size {W0 W : World} {bw : Nat} {v : Value} {l : List UInt8} (h : LSt W0 W bw v l) : W0.heap.size ≤ W.heap.size := h.below.size
theorem LSt.next {W0 W W' : World} {bw : Nat} {v : Value} {l : List UInt8} (h : LSt W0 W bw v l) (b : Below W.heap.size W W') : LSt W0 W' bw v l := ⟨h.below.trans (b.mono h.size), h.wr.below b, h.low⟩
theorem LSt.step {W0 W W' : World} {bw : Nat} {v v' : Value} {l l' : List UInt8} (h : LSt W0 W bw v l) (s : WStep bw W W' v v') (w : Wr W' W0.heap.size bw v' l') : LSt W0 W' bw v' l' :=
  ⟨h.below.trans (s.belowB h.low (fun g e => (h.wr.row.lt g e).1) h.size), w, h.low⟩

/-- Nothing but block g has turned. -/
structure Only (g : Nat) (W W' : World) : Prop where
  os : W'.os = W.os
  tape : W'.tape = W.tape
  output : W'.output = W.output
  size : W'.heap.size = W.heap.size
  block : ∀ k, k ≠ g → W'.heap[k]? = W.heap[k]?
theorem Only.refl (g : Nat) (W : World) : Only g W W := ⟨rfl, rfl, rfl, rfl, fun _ _ => rfl⟩
theorem Only.drewN {g : Nat} {W W' : World} (h : Only g W W') (q : Nat) : Only g W (W'.drewN q) := ⟨h.os, h.tape, h.output, h.size, h.block⟩
theorem Only.set {g : Nat} {W W' : World} (h : Only g W W') (j : Nat) (x : Value) : Only g W (W'.setCell ⟨g, j, none⟩ x) :=
  ⟨h.os, h.tape, h.output, by simpa using h.size, fun k hk => (heap_setCell_other W' ⟨g, j, none⟩ k x hk).trans (h.block k hk)⟩
theorem Wr.only {W W' : World} {B bw g : Nat} {v : Value} {l : List UInt8} (h : Wr W B bw v l) (o : Only g W W') (h1 : g ≠ bw) (h2 : v.ownBlock ≠ some g) : Wr W' B bw v l :=
  ⟨(o.block bw (Ne.symm h1)).trans h.blk, h.row.kept fun g' e _ => o.block g' (by rintro rfl; exact h2 e)⟩
theorem LSt.only {W0 W W' : World} {bw g : Nat} {v : Value} {l : List UInt8} (h : LSt W0 W bw v l) (o : Only g W W') (h1 : g ≠ bw) (h2 : v.ownBlock ≠ some g) (h3 : W0.heap.size ≤ g) : LSt W0 W' bw v l :=
  ⟨h.below.trans ⟨o.os, o.tape, o.output, Nat.le_of_eq o.size.symm, fun k hk => o.block k (by omega)⟩, h.wr.only o h1 h2, h.low⟩
theorem WStep.only {bw g : Nat} {w W W' : World} {v v' : Value} (h : WStep bw w W v v') (o : Only g W W') (hg : w.heap.size ≤ g) : WStep bw w W' v v' :=
  ⟨o.os.trans h.os, o.tape.trans h.tape, o.output.trans h.output, by rw [o.size]; exact h.size, fun k hk h1 h2 => (o.block k (by omega)).trans (h.block k hk h1 h2), h.own⟩

set_option maxHeartbeats 2000000 in
set_option maxRecDepth 100000 in
theorem lay_any (W0 w : World) (bw : Nat) (v : Value) (l m : List UInt8) (k n : Int) (hn : (Lit.int .i64 n).wf = true) (vB : Value) (hB : Sl W0 vB m) (hl : l.length + m.length + 4096 ≤ room) (h : LSt W0 w bw v l) :
    Calls Tryd.prog 14 #[.pointer (some ⟨bw, 0, none⟩), .agg #[.int .i64 k, .int .i64 n, vB]] w fun r w' => ∃ u v', r = .returned u ∧ Sl w' u (layOf k n m) ∧ LSt W0 w' bw v' (l ++ layOf k n m) ∧ WStep bw w w' v v' := by
  obtain ⟨pB, cB, hve, _⟩ := hB.ex
  subst hve
  have hal : Below w.heap.size w (w.alloc (.cells #[.int .i64 k, .int .i64 n, .slice pB m.length cB] 39)) := (Below.refl _ _).alloc (Nat.le_refl _) _
  have hcl : ∀ j, (w.alloc (.cells #[.int .i64 k, .int .i64 n, .slice pB m.length cB] 39)).cell? ⟨w.heap.size, j, none⟩ = (#[.int .i64 k, .int .i64 n, .slice pB m.length cB] : Array Value)[j]? := fun j => cell_of_any _ _ j _ _ _ (heap_alloc_any w _)
  have hwbt : w.heap.size < (w.alloc (.cells #[.int .i64 k, .int .i64 n, .slice pB m.length cB] 39)).heap.size := by simp
  have h1 := h.next hal
  have hs1 : WStep bw w _ v v := WStep.of_below v hal
  generalize hbt : w.heap.size = bt at *
  generalize hW1 : w.alloc (.cells #[.int .i64 k, .int .i64 n, .slice pB m.length cB] 39) = W1 at *
  have c0 : W1.cell? ⟨bt, 0, none⟩ = some (.int .i64 k) := hcl 0
  have c1 : W1.cell? ⟨bt, 1, none⟩ = some (.int .i64 n) := hcl 1
  have c2 : W1.cell? ⟨bt, 2, none⟩ = some (.slice pB m.length cB) := hcl 2
  have hbig : 4096 ≤ room := by decide
  have hnw : -9223372036854775808 ≤ n ∧ n ≤ 9223372036854775807 := by
    have := hn
    simp [Lit.wf, IntKind.min, IntKind.max, IntKind.bits, IntKind.signed] at this
    omega
  clear hcl hal
  have hkb : ∀ {w2 : World} {v2 : Value}, WStep bw W1 w2 v v2 → w2.heap[bt]? = W1.heap[bt]? := fun {w2 v2} s => by
    have hlt := h.wr.lt
    refine s.block bt hwbt (by omega) (fun e => ?_)
    have := (h.wr.row.lt bt e.symm).2
    omega
  have hkc : ∀ {w2 : World} {v2 : Value} (j : Nat), WStep bw W1 w2 v v2 → w2.cell? ⟨bt, j, none⟩ = W1.cell? ⟨bt, j, none⟩ := fun {w2 v2} j s => World.cell?_of_block (a := ⟨bt, j, none⟩) (hkb s)
  have HKC : Hid _ := @hkc
  clear hkb hkc
  have hX : (((n % 18446744073709551616).toNat : Nat) : Int) = n % 18446744073709551616 := by omega
  have hX2 : (n % 18446744073709551616).toNat < 18446744073709551616 := by omega
  by_cases k1 : k = 1
  · subst k1
    have hlo : layOf 1 n m = low 1 (n % 18446744073709551616).toNat := by simp [layOf]
    rw [hlo]
    clear hlo
    have hb8 : ((by8 (n % 256).toNat).toNat : Int) = n % 256 := by rw [by8_nat]; omega
    have hc := wbyte_any W0.heap.size bw v (by8 (n % 256).toNat) l (by omega) W1 h1.wr h1.size
    rw [hb8, show [by8 (n % 256).toNat] = low 1 (n % 18446744073709551616).toNat from low1_mod (a := (n % 256).toNat) (by omega)] at hc
    clear hb8
    have hlw : ∀ W, _ := fun W => low_any (n % 18446744073709551616).toNat hX2 1 (by decide) W
    generalize (n % 18446744073709551616).toNat = X at *
    go_enter Tryd.func14, Tryd.ntmps14
    go_wp2_with fail
    refine hc.mono ?_
    rintro r w2 ⟨rfl, v', h2, s2⟩
    have c1' : w2.cell? ⟨bt, 1, none⟩ = some (.int .i64 n) := (HKC.out 1 s2).trans c1
    have hlw2 := hlw w2
    clear hlw hc
    rw [hX] at hlw2
    go_wp2_with fail
    refine hlw2.mono ?_
    rintro r w3 ⟨u, rfl, h3, b3⟩
    go_wp2
    go_ret
    exact ⟨_, v', rfl, h3.sl, (h1.step s2 h2).next b3, (hs1.trans s2).trans (WStep.of_below v' b3)⟩
  by_cases k2 : k = 2
  · subst k2
    have hlo : layOf 2 n m = low 2 (n % 18446744073709551616).toNat := by simp [layOf]
    rw [hlo]
    clear hlo
    have hb8 : (((n % 65536).toNat : Nat) : Int) = n % 65536 := by omega
    have hc := wcell_any W0.heap.size bw v (n % 65536).toNat (by omega) l (by omega) W1 h1.wr h1.size
    rw [hb8, show low 2 (n % 65536).toNat = low 2 (n % 18446744073709551616).toNat from low2_mod (by omega)] at hc
    clear hb8
    have hlw : ∀ W, _ := fun W => low_any (n % 18446744073709551616).toNat hX2 2 (by decide) W
    generalize (n % 18446744073709551616).toNat = X at *
    go_enter Tryd.func14, Tryd.ntmps14
    go_wp2_with fail
    refine hc.mono ?_
    rintro r w2 ⟨rfl, v', h2, s2⟩
    have c1' : w2.cell? ⟨bt, 1, none⟩ = some (.int .i64 n) := (HKC.out 1 s2).trans c1
    have hlw2 := hlw w2
    clear hlw hc
    rw [hX] at hlw2
    go_wp2_with fail
    refine hlw2.mono ?_
    rintro r w3 ⟨u, rfl, h3, b3⟩
    go_wp2
    go_ret
    exact ⟨_, v', rfl, h3.sl, (h1.step s2 h2).next b3, (hs1.trans s2).trans (WStep.of_below v' b3)⟩
  by_cases k3 : k = 3
  · subst k3
    have hlo : layOf 3 n m = low 4 (n % 18446744073709551616).toNat := by simp [layOf]
    rw [hlo]
    clear hlo
    have hb8 : (((n % 4294967296).toNat : Nat) : Int) = n % 4294967296 := by omega
    have hc := wword_any W0.heap.size bw v (n % 4294967296).toNat (by omega) l (by omega) W1 h1.wr h1.size
    rw [hb8, show low 4 (n % 4294967296).toNat = low 4 (n % 18446744073709551616).toNat from low4_mod (by omega)] at hc
    clear hb8
    have hlw : ∀ W, _ := fun W => low_any (n % 18446744073709551616).toNat hX2 4 (by decide) W
    generalize (n % 18446744073709551616).toNat = X at *
    go_enter Tryd.func14, Tryd.ntmps14
    go_wp2_with fail
    refine hc.mono ?_
    rintro r w2 ⟨rfl, v', h2, s2⟩
    have c1' : w2.cell? ⟨bt, 1, none⟩ = some (.int .i64 n) := (HKC.out 1 s2).trans c1
    have hlw2 := hlw w2
    clear hlw hc
    rw [hX] at hlw2
    go_wp2_with fail
    refine hlw2.mono ?_
    rintro r w3 ⟨u, rfl, h3, b3⟩
    go_wp2
    go_ret
    exact ⟨_, v', rfl, h3.sl, (h1.step s2 h2).next b3, (hs1.trans s2).trans (WStep.of_below v' b3)⟩
  by_cases k4 : k = 4
  · subst k4
    have hlo : layOf 4 n m = m := by simp [layOf]
    rw [hlo]
    clear hlo
    have hs := hB.below h1.below
    have hro := roomy_any _ m (by omega) W1 hs
    go_enter Tryd.func14, Tryd.ntmps14
    go_wp2_with fail
    refine hro.mono ?_
    rintro r w2 ⟨u2, rfl, h2, b2⟩
    have hw2 := h1.next b2
    have hwb := wbytes_any W0.heap.size bw v u2 l m (by omega) w2 hw2.wr h2.sl hw2.size
    obtain ⟨g, cap, hue, hrow⟩ := id h2
    subst hue
    have hgl := hrow.lt g rfl
    have hbw := h1.wr.lt
    go_wp2_with fail
    refine hwb.mono ?_
    rintro r w3 ⟨rfl, v3, h3, s3⟩
    have hs13 := (WStep.of_below (bw := bw) v b2).trans s3
    have hL3 := h1.step hs13 h3
    have hgn : g ≠ bw := by omega
    have hgv : v3.ownBlock ≠ some g := by
      intro e
      rcases s3.own with e2 | e2
      · rw [e2] at e
        have := (h1.wr.row.lt g e).2
        omega
      · have := e2 g e; omega
    have hr3 : Row w3 W1.heap.size (.slice (some ⟨g, 0, none⟩) (m.length + 3) cap) (m ++ marks) := hrow.kept fun g' e hlt => s3.block g' hlt (by simp [Value.ownBlock] at e; omega) (fun e2 => by
      simp [Value.ownBlock] at e
      subst e
      have := (h1.wr.row.lt g e2.symm).2
      omega)
    have c2' : w3.cell? ⟨bt, 2, none⟩ = some (.slice pB m.length cB) := (HKC.out 2 hs13).trans c2
    have hs3 := hB.below hL3.below
    have haw := aswas_any W1.heap.size (.slice (some ⟨g, 0, none⟩) m.length cap) (.slice pB m.length cB) m (by omega) w3 ⟨g, cap, rfl, hr3⟩ hs3
    clear hrow hwb hw2 hro h3
    go_wp2_with fail
    refine haw.mono ?_
    rintro r w4 ⟨rfl, q, rfl⟩
    clear haw
    go_wp2_with fail
    go_loopw [63] (fun i wr => ∃ (j : Nat) (L : List UInt8), j ≤ m.length ∧ i = .int .i64 (j : Int) ∧ L.length = m.length + 3 ∧ Row wr W1.heap.size (.slice (some ⟨g, 0, none⟩) (m.length + 3) cap) L ∧ Only g w3 wr) (fun i _ => m.length - (intOf i).toNat)
    case atStart => exact ⟨0, m ++ marks, by omega, rfl, by simp [marks], hr3, (Only.refl g w3).drewN q⟩
    case round =>
      obtain ⟨j, L, hj, rfl, hL, hrr, hon⟩ := hrel
      have hroomN := hl
      unfold room at hroomN
      by_cases hlt : j < m.length
      · have i1 : (j : Int) < m.length := by omega
        have hcell := row_cell hrr j (by omega)
        have hfz := row_fz hrr j
        have hx8 : bits .xor .u8 (L[j].toNat : Int) 60 = ((L[j].toNat ^^^ 60 : Nat) : Int) := xor8 _ 60 (u8lt _) (by decide)
        have hlt8 : L[j].toNat ^^^ 60 < 2 ^ 8 := Nat.xor_lt_two_pow (u8lt _) (by decide)
        have hst := row_store hrr j (by omega) (by8 (L[j].toNat ^^^ 60))
        have hbn : (by8 (L[j].toNat ^^^ 60)).toNat = L[j].toNat ^^^ 60 := by rw [by8_nat]; omega
        rw [hbn] at hst
        generalize L[j].toNat ^^^ 60 = X8 at *
        have hon2 := hon.set j (.int .u8 (X8 : Int))
        clear hon hrr hlt8
        go_wp2
        go_roundw
        case rel =>
          first
            | exact ⟨j + 1, _, by omega, by go_num, by simpa using hL, hst, hon2⟩
            | ((repeat apply Exists.intro); refine ⟨⟨j + 1, _, by omega, ?_, ?_, hst, hon2⟩, rfl⟩; · go_num
               · simpa using hL)
        case measure => simp [intOf]; omega
      · obtain rfl : j = m.length := by omega
        have hL4 := hL3.only hon hgn hgv (by have := h1.size; omega)
        have c2'' : wr.cell? ⟨bt, 2, none⟩ = some (.slice pB m.length cB) := by
          rw [World.cell?_of_block (w := w3) (hon.block bt (by omega))]; exact c2'
        go_wp2
        go_ret
        exact ⟨_, v3, rfl, hB.below hL4.below, hL4, (hs1.trans hs13).only hon (by omega)⟩
  by_cases k5 : k = 5
  · subst k5
    have hlo : layOf 5 n m = form (n % 4294967296).toNat := by simp [layOf]
    rw [hlo]
    clear hlo
    have hc := wnumber_any W0.heap.size bw v n hn l (by omega) W1 h1.wr h1.size
    have hlw : ∀ W, _ := fun W => refnumber_any n hn W
    generalize (n % 4294967296).toNat = X at *
    go_enter Tryd.func14, Tryd.ntmps14
    go_wp2_with fail
    refine hc.mono ?_
    rintro r w2 ⟨rfl, v', h2, s2⟩
    have c1' : w2.cell? ⟨bt, 1, none⟩ = some (.int .i64 n) := (HKC.out 1 s2).trans c1
    have hlw2 := hlw w2
    clear hlw hc
    go_wp2_with fail
    refine hlw2.mono ?_
    rintro r w3 ⟨u, rfl, h3, b3⟩
    go_wp2
    go_ret
    exact ⟨_, v', rfl, h3.sl, (h1.step s2 h2).next b3, (hs1.trans s2).trans (WStep.of_below v' b3)⟩
  · have hlo : layOf k n m = [] := by simp [layOf, k1, k2, k3, k4, k5]
    rw [hlo, List.append_nil]
    clear hlo
    have j1 : (k == 1) = false := by simp [k1]
    have j2 : (k == 2) = false := by simp [k2]
    have j3 : (k == 3) = false := by simp [k3]
    have j4 : (k == 4) = false := by simp [k4]
    have j5 : (k == 5) = false := by simp [k5]
    go_enter Tryd.func14, Tryd.ntmps14
    go_wp2
    go_ret
    exact ⟨_, v, rfl, .inl ⟨rfl, rfl⟩, h1, hs1⟩
end Go.Proofs.YthphmeckcmhijaaDoor
