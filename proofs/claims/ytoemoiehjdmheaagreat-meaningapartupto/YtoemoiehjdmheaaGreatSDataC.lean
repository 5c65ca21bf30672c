import Derived.Test.YtoemoiehjdmheaaGreatSDataB
import Derived.Deep.RegionWith
namespace Go.Proofs.YtoemoiehjdmheaaGreat.S
open Go.RowKit
open Go.Proofs
set_option linter.unusedVariables false
set_option linter.unusedSimpArgs false
def RowU (W : World) (B : Nat) (v : Value) (l : List Int) : Prop := W.ownsRow B 57 1 v l.length (en eU l)
theorem HasD.ls {W : World} {b : Nat} {l : List Int} (h : HasD W b l) : Ls eU 1 W (.slice (some ⟨b, 0, none⟩) l.length 256) l := by
 refine .inr ⟨_, 256, rfl, h.2, fun i a hi => ⟨b, 0, rfl, fun j u hj => ?_⟩⟩
 have hj' : j < 1 := (List.getElem?_eq_some_iff.1 hj).1
 refine cell_of W b _ _ 104 _ h.1 ?_
 rw [Nat.zero_add, pc_get hU 0 l h.2 i j a hi hj']; exact hj
set_option maxHeartbeats 1000000
set_option maxRecDepth 100000
theorem uclone (x : Addr) (l : List Int) (c : Nat) (hl : l.length <= 1000000) (w : World) (h : Ls eU 1 w (.slice (some x) l.length c) l) :
  Calls Tryz.prog 59 #[.slice (some x) l.length c] w fun e w' => ∃ u, e = .returned u /\ RowU w' w.heap.size u l /\ Below w.heap.size w w' := by
 have hr0 := own_empty w 57 1
 have hb0 : Below w.heap.size w (w.alloc (.cells #[] 57)) := (Below.refl _ _).alloc (Nat.le_refl _) _
 have hs0 := (h.below hb0).cs hU (by omega) oneU
 have hn := fun (W : World) => eql_nil 37 57 Tryz.underlying37 W (some x) l.length c
 clear h
 go_enter Tryz.func59, Tryz.ntmps59
 go_wp2_with (first | (at_builtin; refine wpList_append_row _ rfl _ _ 37 57 _ 1 2 Tryz.underlying37 info32 rfl (by decide) rfl w.heap.size _ 0 [] rfl hr0 _ l.length (en eU l) rfl hs0 (by unfold room; omega) (by unfold maxLen; omega) hb0.size ?_))
 intro v' w' hr hg
 go_wp2
 go_ret
 refine ⟨_, rfl, ?_, hg.belowAll (fun g e => (hr0.lt g e).1) hb0 (Nat.le_refl _)⟩
 simpa [RowU] using hr
theorem dall (b : Nat) (l : List Int) (w : World) (h : HasD w b l) : Calls Tryz.prog 43 #[.pointer (some ⟨b, 0, none⟩)] w fun e w' => ∃ u, e = .returned u /\ RowU w' w.heap.size u l /\ Below w.heap.size w w' := by
 have cn := h.count
 have hk := h.len_lt
 have hd : HasD w.drew b l := h
 have hc := uclone ⟨b, 0, none⟩ l 256 (by have := h.2; omega) w.drew hd.ls
 clear h hd
 go_enter Tryz.func43, Tryz.ntmps43
 go_wp2_with fail
 go_region_with (go_at_call 59; refine hc.mono ?_; rintro e w1 ⟨u, rfl, h1, h2⟩)
 go_wp2
 go_ret
 exact ⟨_, rfl, h1, ⟨h2.os, h2.tape, h2.output, h2.size, h2.block⟩⟩
theorem dcells (b : Nat) (l : List Int) (w : World) (h : HasD w b l) : Calls Tryz.prog 29 #[.pointer (some ⟨b, 0, none⟩)] w fun e w' => ∃ u, e = .returned u /\ RowU w' w.heap.size u l /\ Below w.heap.size w w' := by
 have hc := dall b l w h
 clear h
 go_enter Tryz.func29, Tryz.ntmps29
 go_wp2_with fail
 refine hc.mono ?_
 rintro e w1 ⟨u, rfl, h1, h2⟩
 go_wp2
 go_ret
 exact ⟨_, rfl, h1, h2⟩
def HasR (W : World) (b : Nat) (l : List (Int × Int)) : Prop := W.heap[b]? = some (.cells (pc eK (0, 0) l).toArray 111 (0, 0)) /\ l.length <= 128
theorem HasR.le {W : World} {b : Nat} {l : List (Int × Int)} (h : HasR W b l) : l.length <= 256 := by have := h.2; omega
theorem HasR.count {W : World} {b : Nat} {l : List (Int × Int)} (h : HasR W b l) : W.cell? ⟨b, 512, none⟩ = some (.int .i64 (l.length : Int)) := cell_of W b 512 _ 111 _ h.1 (pc_count hK (0, 0) l h.le)
theorem HasR.get {W : World} {b : Nat} {l : List (Int × Int)} (h : HasR W b l) (i : Nat) (a : Int × Int) (hi : l[i]? = some a) : W.cell? ⟨b, i * 2, none⟩ = some (.int .i64 a.1) /\ W.cell? ⟨b, i * 2 + 1, none⟩ = some (.int .u16 a.2) :=
 ⟨cell_of W b _ _ 111 _ h.1 (pc_get hK (0, 0) l h.le i 0 a hi (by omega)), cell_of W b _ _ 111 _ h.1 (pc_get hK (0, 0) l h.le i 1 a hi (by omega))⟩
theorem HasR.kept {W W' : World} {b : Nat} {l : List (Int × Int)} (h : HasR W b l) (k : W'.heap[b]? = W.heap[b]?) : HasR W' b l := ⟨k.trans h.1, h.2⟩
theorem HasR.below {W W' : World} {b : Nat} {l : List (Int × Int)} (h : HasR W b l) (k : Below W.heap.size W W') : HasR W' b l := h.kept (k.block b (lt_of h.1))
set_option maxHeartbeats 1000000
set_option maxRecDepth 100000
theorem rlen (b : Nat) (l : List (Int × Int)) (w : World) (h : HasR w b l) : Calls Tryz.prog 30 #[.pointer (some ⟨b, 0, none⟩)] w fun e w' => e = .returned (.int .i64 (l.length : Int)) /\ w' = w := by
 have c := h.count
 clear h
 go_enter Tryz.func30, Tryz.ntmps30
 go_wp2
 go_ret
 exact ⟨rfl, rfl⟩
theorem rtop (b : Nat) (l : List (Int × Int)) (i n : Nat) (hi : i + n + 1 = l.length) (w : World) (h : HasR w b l) : Calls Tryz.prog 135 #[.pointer (some ⟨b, 0, none⟩), .int .i64 (n : Int)] w fun e w' => e = .returned (.pointer (some ⟨b, i * 2, none⟩)) /\ ∃ q, w' = w.drewN q := by
 have c := h.count
 have hl := h.2
 have e1 : IntKind.i64.wrap ((l.length : Int) - 1) = (l.length : Int) - 1 := by rw [i64_id _ (by omega) (by omega)]
 have e2 : IntKind.i64.wrap ((l.length : Int) - 1 - (n : Int)) = (i : Int) := by rw [i64_id _ (by omega) (by omega)]; omega
 have hk : (i : Int) < 256 := by omega
 have hk2 : i < 256 := by omega
 clear h hi hl
 go_enter Tryz.func135, Tryz.ntmps135
 go_wp2_with fail
 go_quiet (fail)
 go_wp2
 go_ret
 exact ⟨rfl, _, rfl⟩
theorem rat_under (b : Nat) (l : List (Int × Int)) (n kind : Int) (hn : n < 0 \/ (l.length : Int) <= n) (w : World) (h : HasR w b l) :
  Calls Tryz.prog 86 #[.pointer (some ⟨b, 0, none⟩), .int .i64 n, .int .i64 kind] w fun e w' => e = .returned (.tuple #[.int .u16 0, .int .i64 3]) /\ w' = w := by
 have hd := rlen b l w h
 clear h
 by_cases a : n < 0
 ·go_enter Tryz.func86, Tryz.ntmps86
  go_wp2
  go_ret2
  exact ⟨rfl, rfl⟩
 ·have e1 : decide (n < 0) = false := decide_eq_false a
  have e2 : decide ((l.length : Int) <= n) = true := decide_eq_true (by omega)
  go_enter Tryz.func86, Tryz.ntmps86
  go_wp2_with fail
  refine hd.mono ?_
  rintro e w1 ⟨rfl, rfl⟩
  go_wp2
  go_ret2
  exact ⟨rfl, rfl⟩
theorem rat_kind (b : Nat) (l : List (Int × Int)) (i n : Nat) (hi : i + n + 1 = l.length) (k v : Int) (ha : l[i]? = some (k, v)) (kind : Int) (hne : k ≠ kind) (w : World) (h : HasR w b l) :
  Calls Tryz.prog 86 #[.pointer (some ⟨b, 0, none⟩), .int .i64 (n : Int), .int .i64 kind] w fun e w' => e = .returned (.tuple #[.int .u16 0, .int .i64 5]) /\ ∃ q, w' = w.drewN q := by
 have hd := rlen b l w h
 have ht := rtop b l i n hi w h
 have hg := fun q => HasR.get (W := w.drewN q) (b := b) (l := l) h i (k, v) ha
 have e0 : decide ((n : Int) < 0) = false := decide_eq_false (by omega)
 have e2 : decide ((l.length : Int) <= (n : Int)) = false := decide_eq_false (by omega)
 have e3 : (k != kind) = true := by simp [hne]
 clear h hi hne ha
 generalize hN : (n : Int) = N at *
 clear hN
 go_enter Tryz.func86, Tryz.ntmps86
 go_wp2_with fail
 refine hd.mono ?_
 rintro e w1 ⟨rfl, hw1⟩
 obtain rfl := hw1.symm
 go_wp2_with fail
 refine ht.mono ?_
 rintro e w2 ⟨rfl, q, rfl⟩
 have g1 := (hg q).1
 clear hg hd ht
 go_wp2
 go_ret2
 exact ⟨rfl, _, rfl⟩
theorem rat_ok (b : Nat) (l : List (Int × Int)) (i n : Nat) (hi : i + n + 1 = l.length) (k v : Int) (ha : l[i]? = some (k, v)) (w : World) (h : HasR w b l) :
  Calls Tryz.prog 86 #[.pointer (some ⟨b, 0, none⟩), .int .i64 (n : Int), .int .i64 k] w fun e w' => e = .returned (.tuple #[.int .u16 v, .int .i64 0]) /\ ∃ q, w' = w.drewN q := by
 have hd := rlen b l w h
 have ht := rtop b l i n hi w h
 have hg := fun q => HasR.get (W := w.drewN q) (b := b) (l := l) h i (k, v) ha
 have e0 : decide ((n : Int) < 0) = false := decide_eq_false (by omega)
 have e2 : decide ((l.length : Int) <= (n : Int)) = false := decide_eq_false (by omega)
 clear h hi ha
 generalize hN : (n : Int) = N at *
 clear hN
 go_enter Tryz.func86, Tryz.ntmps86
 go_wp2_with fail
 refine hd.mono ?_
 rintro e w1 ⟨rfl, hw1⟩
 obtain rfl := hw1.symm
 go_wp2_with fail
 refine ht.mono ?_
 rintro e w2 ⟨rfl, q, rfl⟩
 have g1 := (hg q).1
 have g2 := (hg q).2
 clear hg hd ht
 go_wp2
 go_ret2
 exact ⟨rfl, _, rfl⟩
theorem copyK (W : World) (b g o cc : Nat) (l x : List (Int × Int)) (h : HasR W b l) (hx : Sl eK 2 W (some ⟨g, o, none⟩) x) (hl : l.length + x.length <= 128) :
    ∃ W', (Builtin.copy_ #[198, 198] 3 #[.slice (some ⟨b, l.length * 2, none⟩) (256 - l.length) (256 - l.length), .slice (some ⟨g, o, none⟩) x.length cc]).run Tryz.prog W = .ok (.int .i64 (x.length : Int)) W' /\
       W'.heap[b]? = some (.cells ((pc eK (0, 0) l).take (l.length * 2) ++ en eK x ++ (pc eK (0, 0) l).drop (l.length * 2 + x.length * 2)).toArray 111 (0, 0)) /\ At b W W' := by
  have hm : Nat.min x.length (256 - l.length) = x.length := Nat.min_eq_left (by omega)
  have hr := run_copy_rows (P := Tryz.prog) W 198 198 3 106 b (l.length * 2) (256 - l.length) (256 - l.length) 2 ⟨g, o, none⟩ x.length cc (pc eK (0, 0) l).toArray 111 (en eK x) Tryz.underlying198 size43 h.1 (by rw [en_len hK, hm])
    (fun j u hj => hx.news hK (by omega) j u hj) (by rw [en_len hK, List.size_toArray, pc_len hK (0, 0) l h.le]; omega) (oneK x)
  rw [hm, en_len hK] at hr
  exact ⟨_, hr, setRow_eq W b _ 111 _ h.1, rfl, rfl, rfl, by rw [size_setRow]; exact Nat.le_refl _, fun k _ hk => setRow_other W b k _ hk⟩
set_option maxHeartbeats 1000000
set_option maxRecDepth 100000
theorem rput (b : Nat) (l x : List (Int × Int)) (g o c : Nat) (w : World) (h : HasR w b l) (hx : Sl eK 2 w (some ⟨g, o, none⟩) x) (hl : l.length + x.length <= 128) (h0 : 0 < x.length) :
    Calls Tryz.prog 85 #[.pointer (some ⟨b, 0, none⟩), .int .i64 128, .slice (some ⟨g, o, none⟩) x.length c] w fun e w' => e = .returned (.bool true) /\ HasR w' b (l ++ x) /\ At b w w' := by
  have cn := h.count
  have hd : HasR w.drew b l := h
  obtain ⟨w1, hcp, hb1, t1⟩ := copyK w.drew b g o c l x hd hx hl
  have hp := pc_put hK (0, 0) l x (by omega)
  have c1 : w1.cell? ⟨b, 512, none⟩ = some (.int .i64 (l.length : Int)) := by
    refine cell_of _ b 512 _ 111 _ hb1 ?_
    have e1 : ((pc eK (0, 0) l).take (l.length * 2) ++ en eK x).length = l.length * 2 + x.length * 2 := by rw [List.length_append, List.length_take, pc_len hK (0, 0) l h.le, en_len hK]; omega
    rw [List.getElem?_append_right (by rw [e1]; omega), e1, List.getElem?_drop, show l.length * 2 + x.length * 2 + (512 - (l.length * 2 + x.length * 2)) = 256 * 2 by omega]
    exact pc_count hK (0, 0) l h.le
  have z1 := frozen_of w1 b 512 _ 111 hb1
  have h2 : HasR (w1.setCell ⟨b, 512, none⟩ (.int .i64 ((l.length : Int) + (x.length : Int)))) b (l ++ x) := by
    refine ⟨?_, by rw [List.length_append]; exact hl⟩
    rw [setCell_heap w1 b 512 _ 111 _ hb1]
    simp only [Nat.reduceMul] at hp
    rw [hp]
  have t2 : At b w (w1.setCell ⟨b, 512, none⟩ (.int .i64 ((l.length : Int) + (x.length : Int)))) := by
    have : At b w w1 := ⟨t1.os, t1.tape, t1.output, t1.size, t1.block⟩
    exact this.setCell b _ rfl _
  have e1 : IntKind.i64.wrap (128 - (l.length : Int)) = 128 - (l.length : Int) := i64_id _ (by omega) (by omega)
  have e2 : decide (128 - (l.length : Int) < (x.length : Int)) = false := by simp; omega
  have e3 : IntKind.i64.wrap ((l.length : Int) + (x.length : Int)) = (l.length : Int) + (x.length : Int) := i64_id _ (by omega) (by omega)
  have hk : (l.length : Int) <= 256 := by omega
  have e4 : ¬ (256 = l.length) := by omega
  clear hp hb1 t1 hx h hd
  go_enter Tryz.func85, Tryz.ntmps85
  go_wp2_with fail
  go_region
  go_wp2
  go_ret
  exact ⟨rfl, h2, t2⟩
theorem rput_no (b : Nat) (l x : List (Int × Int)) (p : Option Addr) (c : Nat) (w : World) (h : HasR w b l) (hl : 128 < l.length + x.length) (hx : x.length <= room) :
    Calls Tryz.prog 85 #[.pointer (some ⟨b, 0, none⟩), .int .i64 128, .slice p x.length c] w fun e w' => e = .returned (.bool false) /\ w' = w := by
  have cn := h.count
  have h2 := h.2
  unfold room at hx
  have e1 : IntKind.i64.wrap (128 - (l.length : Int)) = 128 - (l.length : Int) := i64_id _ (by omega) (by omega)
  have e2 : decide (128 - (l.length : Int) < (x.length : Int)) = true := by simp; omega
  clear h
  go_enter Tryz.func85, Tryz.ntmps85
  go_wp2
  go_ret
  exact ⟨rfl, rfl⟩
theorem rpush0 (p : Value) (q : Option Addr) (c : Nat) (w : World) : Calls Tryz.prog 66 #[p, .slice q 0 c] w fun e w' => e = .returned (.int .i64 0) /\ w' = w := by
  go_enter Tryz.func66, Tryz.ntmps66
  go_wp2
  go_ret
  exact ⟨rfl, rfl⟩
theorem rpush_yes (b : Nat) (l x : List (Int × Int)) (p : Option Addr) (c : Nat) (w : World) (h : HasR w b l) (hx : Sl eK 2 w p x) (hl : l.length + x.length <= 128) :
    Calls Tryz.prog 66 #[.pointer (some ⟨b, 0, none⟩), .slice p x.length c] w fun e w' => e = .returned (.int .i64 0) /\ HasR w' b (l ++ x) /\ At b w w' := by
  rcases Nat.eq_zero_or_pos x.length with h0 | h0
  · obtain rfl := List.eq_nil_of_length_eq_zero h0
    refine (rpush0 _ p c w).mono ?_
    rintro e w' ⟨rfl, rfl⟩
    exact ⟨rfl, by simpa using h, Tc.refl _ _⟩
  · obtain ⟨g, o, rfl, _⟩ := hx 0 x[0] (List.getElem?_eq_getElem h0)
    have hp := rput b l x g o c w h hx hl h0
    have e1 : ((x.length : Int) == 0) = false := beq_eq_false_iff_ne.2 (by omega)
    clear h hx
    go_enter Tryz.func66, Tryz.ntmps66
    go_wp2_with fail
    refine hp.mono ?_
    rintro e w1 ⟨rfl, h1, t1⟩
    go_wp2
    go_ret
    exact ⟨rfl, h1, t1⟩
theorem rpush_no (b : Nat) (l x : List (Int × Int)) (p : Option Addr) (c : Nat) (w : World) (h : HasR w b l) (hl : 128 < l.length + x.length) (hx : x.length <= room) :
    Calls Tryz.prog 66 #[.pointer (some ⟨b, 0, none⟩), .slice p x.length c] w fun e w' => e = .returned (.int .i64 4) /\ w' = w := by
  have h2 := h.2
  have hp := rput_no b l x p c w h hl hx
  have e1 : ((x.length : Int) == 0) = false := beq_eq_false_iff_ne.2 (by omega)
  clear h
  go_enter Tryz.func66, Tryz.ntmps66
  go_wp2_with fail
  refine hp.mono ?_
  rintro e w1 ⟨rfl, rfl⟩
  go_wp2
  go_ret
  exact ⟨rfl, rfl⟩
theorem HasR.set3 {W : World} {b : Nat} {l : List (Int × Int)} {a : Int × Int} (h : HasR W b (l ++ [a])) : HasR (((W.setCell ⟨b, l.length * 2, none⟩ (.int .i64 0)).setCell ⟨b, l.length * 2 + 1, none⟩ (.int .u16 0)).setCell ⟨b, 512, none⟩ (.int .i64 (l.length : Int))) b l := by
  have hl := h.2
  simp only [List.length_append, List.length_cons, List.length_nil] at hl
  refine ⟨?_, by omega⟩
  rw [setCell_heap _ b 512 _ 111 _ (setCell_heap _ b _ _ 111 _ (setCell_heap W b _ _ 111 _ h.1)), pcK_pop l a (by omega)]
theorem rtake (b : Nat) (l : List (Int × Int)) (k v : Int) (w : World) (h : HasR w b (l ++ [(k, v)])) : Calls Tryz.prog 87 #[.pointer (some ⟨b, 0, none⟩)] w fun e w' => e = .returned (.agg #[.int .i64 k, .int .u16 v]) /\ HasR w' b l /\ At b w w' := by
  have hl := h.2
  simp only [List.length_append, List.length_cons, List.length_nil] at hl
  obtain ⟨w0, hw0⟩ : ∃ w0, (w.alloc (.cells #[.int .i64 0, .int .u16 0] 106)).alloc (.cells #[.int .i64 0, .int .u16 0] 106) = w0 := ⟨_, rfl⟩
  have b0 : Below w.heap.size w w0 := by rw [<- hw0]; exact ((Below.refl _ _).alloc (Nat.le_refl _) _).alloc (by simp) _
  have h0 : HasR w0 b (l ++ [(k, v)]) := h.below b0
  have p0 : w0.heap[w.heap.size]? = some (.cells [Value.int .i64 0, Value.int .u16 0].toArray 106 (0, 0)) := by
    rw [<- hw0]; exact (Below.heap_alloc _ _ _ (by simp)).trans (heap_alloc_new w _)
  have p1 : w0.heap[w.heap.size + 1]? = some (.cells [Value.int .i64 0, Value.int .u16 0].toArray 106 (0, 0)) := by
    rw [<- hw0]; have := heap_alloc_new (w.alloc (.cells #[.int .i64 0, .int .u16 0] 106)) (.cells #[.int .i64 0, .int .u16 0] 106); simpa using this
  have s0 : w0.heap.size = w.heap.size + 2 := by rw [<- hw0]; simp
  go_enter Tryz.func87, Tryz.ntmps87
  go_wp2_with fail
  refine (rtop b _ l.length 0 (by simp) w0 h0).mono ?_
  rintro e w1 ⟨rfl, q, hq⟩
  have h1 : HasR w1 b (l ++ [(k, v)]) := by rw [hq]; exact h0
  have b1 : Below w.heap.size w w1 := by rw [hq]; exact ⟨b0.os, b0.tape, b0.output, b0.size, b0.block⟩
  have p0' : w1.heap[w.heap.size]? = some (.cells [Value.int .i64 0, Value.int .u16 0].toArray 106 (0, 0)) := by rw [hq]; exact p0
  have p1' : w1.heap[w.heap.size + 1]? = some (.cells [Value.int .i64 0, Value.int .u16 0].toArray 106 (0, 0)) := by rw [hq]; exact p1
  have s1 : w1.heap.size = w.heap.size + 2 := by rw [hq]; exact s0
  clear hq hw0 b0 h0 p0 p1 s0
  have g1 := h1.get l.length (k, v) (by simp)
  have g2 := g1.2
  replace g1 := g1.1
  obtain ⟨w2, hw2⟩ : ∃ w2, w1.alloc (.cells #[.int .i64 k, .int .u16 v] 106) = w2 := ⟨_, rfl⟩
  have b12 : Below w1.heap.size w1 w2 := by rw [<- hw2]; exact (Below.refl _ _).alloc (Nat.le_refl _) _
  have b2 : Below w.heap.size w w2 := b1.trans (b12.mono (by omega))
  have h2 : HasR w2 b (l ++ [(k, v)]) := h1.below b12
  have q0 := (b12.block _ (by omega)).trans p0'
  have q1 := (b12.block _ (by omega)).trans p1'
  have q2 : w2.heap[w.heap.size + 2]? = some (.cells [Value.int .i64 k, Value.int .u16 v].toArray 106 (0, 0)) := by rw [<- hw2, <- s1]; exact heap_alloc_new w1 _
  have hbw := lt_of h.1
  have hq0 : w.heap.size + 1 ≠ b := by omega
  go_wp2_with fail
  have H2 : Hid _ := h2
  have B2 : Hid _ := b2
  have HB : Hid _ := h.1
  have Q0 : Hid _ := q0
  have Q1 : Hid _ := q1
  have Q2 : Hid _ := q2
  have sA : w2.drew.cell? ⟨w.heap.size + 1, 0, none⟩ = some (.int .i64 0) /\ w2.drew.cell? ⟨w.heap.size + 1, 1, none⟩ = some (.int .u16 0) := ⟨cell_of w2 _ 0 _ 106 _ q1 rfl, cell_of w2 _ 1 _ 106 _ q1 rfl⟩
  have ht : Calls Tryz.prog 135 #[.pointer (some ⟨b, 0, none⟩), .int .i64 0] w2.drew fun e w3 => e = .returned (.pointer (some ⟨b, l.length * 2, none⟩)) /\ (w3.cell? ⟨w.heap.size + 1, 0, none⟩ = some (.int .i64 0) /\ w3.cell? ⟨w.heap.size + 1, 1, none⟩ = some (.int .u16 0)) /\
      w3.cell? ⟨b, l.length * 2, none⟩ = some (.int .i64 k) /\ w3.cell? ⟨b, l.length * 2 + 1, none⟩ = some (.int .u16 v) /\ w3.frozen? ⟨b, l.length * 2, none⟩ = false /\ w3.frozen? ⟨b, l.length * 2 + 1, none⟩ = false /\
      (((w3.setCell ⟨b, l.length * 2, none⟩ (.int .i64 0)).setCell ⟨b, l.length * 2 + 1, none⟩ (.int .u16 0)).cell? ⟨w.heap.size + 1, 0, none⟩ = some (.int .i64 0) /\ ((w3.setCell ⟨b, l.length * 2, none⟩ (.int .i64 0)).setCell ⟨b, l.length * 2 + 1, none⟩ (.int .u16 0)).cell? ⟨w.heap.size + 1, 1, none⟩ = some (.int .u16 0)) /\
      Hid (w3.heap = w2.heap /\ w3.os = w2.os /\ w3.tape = w2.tape /\ w3.output = w2.output) := by
    refine (rtop b _ l.length 0 (by simp) w2.drew (show HasR w2.drew b (l ++ [(k, v)]) from h2)).mono ?_
    rintro e w3 ⟨rfl, q3, rfl⟩
    have hb3 : (w2.drew.drewN q3).heap[b]? = _ := h2.1
    have g := HasR.get (W := w2.drew.drewN q3) (b := b) (l := l ++ [(k, v)]) h2 l.length (k, v) (by simp)
    refine ⟨rfl, sA, g.1, g.2, frozen_of _ b _ _ 111 hb3, frozen_of _ b _ _ 111 hb3, ?_, ?_⟩
    · exact ⟨(World.cell?_of_block (w := w2.drew.drewN q3) ((setCell_other _ b _ _ _ hq0).trans (setCell_other _ b _ _ _ hq0))).trans sA.1, (World.cell?_of_block (w := w2.drew.drewN q3) ((setCell_other _ b _ _ _ hq0).trans (setCell_other _ b _ _ _ hq0))).trans sA.2⟩
    · exact ⟨rfl, rfl, rfl, rfl⟩
  clear hw2 g1 g2 p0' p1' h1 b1 s1 b12 b2 h2 q0 q1 q2 h
  go_region_held (fun W => W.cell? ⟨w.heap.size + 1, 0, none⟩ = some (.int .i64 0) /\ W.cell? ⟨w.heap.size + 1, 1, none⟩ = some (.int .u16 0))
    (first | (with_reducible exact sA) | (with_reducible exact sB) | (with_reducible exact sC))
    ((go_at_call 135; refine ht.mono ?_; rintro e w3 ⟨rfl, sB, f1, f2, z1, z2, sC, HW⟩))
  obtain ⟨w4, hw4⟩ : ∃ w4, (w3.setCell ⟨b, l.length * 2, none⟩ (.int .i64 0)).setCell ⟨b, l.length * 2 + 1, none⟩ (.int .u16 0) = w4 := ⟨_, rfl⟩
  have h3 : HasR w3 b (l ++ [(k, v)]) := ⟨by rw [HW.out.1]; exact H2.out.1, H2.out.2⟩
  have hb4 := setCell_heap _ b (l.length * 2 + 1) _ 111 (.int .u16 0) (setCell_heap w3 b (l.length * 2) _ 111 (.int .i64 0) h3.1)
  rw [hw4] at hb4
  have k4 : ∀ i, i ≠ b -> w4.heap[i]? = w2.heap[i]? := fun i hi => by rw [<- hw4]; exact ((setCell_other _ b _ _ _ hi).trans (setCell_other _ b _ _ _ hi)).trans (by rw [HW.out.1])
  have c4 : w4.cell? ⟨b, 512, none⟩ = some (.int .i64 ((l.length + 1 : Nat) : Int)) := by
    refine cell_of _ b 512 _ 111 _ hb4 ?_
    rw [List.getElem?_set_ne (by omega), List.getElem?_set_ne (by omega)]
    have := pc_count hK (0, 0) _ h3.le
    simpa using this
  have z4 := frozen_of w4 b 512 _ 111 hb4
  have e1 : IntKind.i64.wrap (((l.length + 1 : Nat) : Int) - 1) = (l.length : Int) := by rw [i64_id _ (by omega) (by omega)]; omega
  obtain ⟨w5, hw5⟩ : ∃ w5, w4.setCell ⟨b, 512, none⟩ (.int .i64 (l.length : Int)) = w5 := ⟨_, rfl⟩
  have h5 : HasR w5 b l := by rw [<- hw5, <- hw4]; exact h3.set3
  have k5 : ∀ i, i ≠ b -> w5.heap[i]? = w2.heap[i]? := fun i hi => by rw [<- hw5]; exact (setCell_other _ b _ _ _ hi).trans (k4 i hi)
  have m5 : w5.heap.size = w2.heap.size /\ w5.os = w2.os /\ w5.tape = w2.tape /\ w5.output = w2.output := by
    refine ⟨?_, ?_, ?_, ?_⟩
    · rw [<- hw5, <- hw4, setCell_size, setCell_size, setCell_size, HW.out.1]
    · rw [<- hw5, <- hw4]; exact HW.out.2.1
    · rw [<- hw5, <- hw4]; exact HW.out.2.2.1
    · rw [<- hw5, <- hw4]; exact HW.out.2.2.2
  have hbw := HB.out
  have hlt : b < w.heap.size := lt_of hbw
  have d2 := (k5 (w.heap.size + 2) (by omega)).trans Q2.out
  have d0 := (k5 w.heap.size (by omega)).trans Q0.out
  have x1 := cell_of w5 _ 0 _ 106 _ d2 rfl
  have x2 := cell_of w5 _ 1 _ 106 _ d2 rfl
  have y1 := cell_of w5 _ 0 _ 106 _ d0 rfl
  have y2 := cell_of w5 _ 1 _ 106 _ d0 rfl
  have y3 := frozen_of w5 _ 0 _ 106 d0
  have y4 := frozen_of w5 _ 1 _ 106 d0
  have hfin : HasR ((w5.setCell ⟨w.heap.size, 0, none⟩ (.int .i64 k)).setCell ⟨w.heap.size, 1, none⟩ (.int .u16 v)) b l /\ At b w ((w5.setCell ⟨w.heap.size, 0, none⟩ (.int .i64 k)).setCell ⟨w.heap.size, 1, none⟩ (.int .u16 v)) := by
    refine ⟨h5.kept ((setCell_other _ _ _ _ _ (by omega)).trans (setCell_other _ _ _ _ _ (by omega))), m5.2.1.trans B2.out.os, m5.2.2.1.trans B2.out.tape, m5.2.2.2.trans B2.out.output, ?_, ?_⟩
    · rw [setCell_size, setCell_size, m5.1]; exact B2.out.size
    · intro i hi hn
      exact ((setCell_other _ _ _ _ _ (by omega)).trans (setCell_other _ _ _ _ _ (by omega))).trans ((k5 i hn).trans (B2.out.block i hi))
  have HF : Hid _ := hfin
  generalize hK' : ((l.length + 1 : Nat) : Int) = K at *
  clear hK' hfin d0 d2 hlt hbw m5 k5 h5 k4 hb4 h3 ht sA sB sC f1 f2 z1 z2 hl
  go_wp2_with fail
  exact bodyPost_ret (v := .agg #[.int .i64 k, .int .u16 v]) (by simp [results, Tryz.results87, go_sem, y1, y2]) rfl ⟨rfl, HF.out⟩
theorem field1 (W : World) (k v : Int) : (Instr.field 106 (Value.agg #[.int .i64 k, .int .u16 v]) 1).run Tryz.prog W = .ok (.int .u16 v) W := by
  simp [Instr.field, run_underlying Tryz.underlying106, Value.cells, Tryz.sizeOf3, Tryz.sizeOf57, go_sem, asAgg]
theorem rpop_ok (b : Nat) (l : List (Int × Int)) (k v : Int) (w : World) (h : HasR w b (l ++ [(k, v)])) : Calls Tryz.prog 67 #[.pointer (some ⟨b, 0, none⟩), .int .i64 k] w fun e w' => e = .returned (.tuple #[.int .u16 v, .int .i64 0]) /\ HasR w' b l /\ At b w w' := by
  have ha := rat_ok b _ l.length 0 (by simp) k v (by simp) w h
  go_enter Tryz.func67, Tryz.ntmps67
  go_wp2_with fail
  refine ha.mono ?_
  rintro e w1 ⟨rfl, q, hq⟩
  have h1 : HasR w1 b (l ++ [(k, v)]) := by rw [hq]; exact h
  have t1 : At b w w1 := by rw [hq]; exact (Tc.refl (fun k => k = b) w).drewN q
  clear hq ha
  go_wp2_with fail
  refine (rtake b l k v w1 h1).mono ?_
  rintro e w2 ⟨rfl, h2, t2⟩
  clear h1
  have hf := fun W => field1 W k v
  go_wp2
  go_ret2
  exact ⟨rfl, h2, t1.trans t2 (fun _ f => f) (fun _ _ f => f)⟩
theorem rpop_kind (b : Nat) (l : List (Int × Int)) (k v kind : Int) (hne : k ≠ kind) (w : World) (h : HasR w b (l ++ [(k, v)])) : Calls Tryz.prog 67 #[.pointer (some ⟨b, 0, none⟩), .int .i64 kind] w fun e w' => e = .returned (.tuple #[.int .u16 0, .int .i64 5]) /\ ∃ q, w' = w.drewN q := by
  have ha := rat_kind b _ l.length 0 (by simp) k v (by simp) kind hne w h
  clear h hne
  go_enter Tryz.func67, Tryz.ntmps67
  go_wp2_with fail
  refine ha.mono ?_
  rintro e w1 ⟨rfl, q, rfl⟩
  go_wp2
  go_ret2
  exact ⟨rfl, _, rfl⟩
set_option maxHeartbeats 1000000
set_option maxRecDepth 100000
theorem rset (b : Nat) (l : List (Int × Int)) (k v x : Int) (w : World) (h : HasR w b (l ++ [(k, v)])) : Calls Tryz.prog 91 #[.pointer (some ⟨b, 0, none⟩), .int .u16 x] w fun e w' => e = .returned (.tuple #[]) /\ HasR w' b (l ++ [(k, x)]) /\ At b w w' := by
 have hd := rlen b _ w h
 have hl := h.2
 have ht := rtop b _ l.length 0 (by simp) w h
 have e1 : decide (0 < (((l ++ [(k, v)]).length : Nat) : Int)) = true := decide_eq_true (by rw [List.length_append]; simp only [List.length_cons, List.length_nil]; omega)
 have hg := fun q => (HasR.get (W := w.drewN q) (b := b) (l := l ++ [(k, v)]) h l.length (k, v) (by simp)).2
 have hz := fun q => frozen_of (w.drewN q) b (l.length * 2 + 1) _ 111 h.1
 have hfin : ∀ q, HasR ((w.drewN q).setCell ⟨b, l.length * 2 + 1, none⟩ (.int .u16 x)) b (l ++ [(k, x)]) /\ At b w ((w.drewN q).setCell ⟨b, l.length * 2 + 1, none⟩ (.int .u16 x)) := by
  intro q
  refine ⟨⟨?_, by simpa using hl⟩, ((Tc.refl (fun k => k = b) w).drewN q).setCell b _ rfl _⟩
  rw [setCell_heap _ b _ _ 111 _ (show (w.drewN q).heap[b]? = _ from h.1), pcK_set l (k, v) x (by simp at hl; omega)]
 generalize hK : (((l ++ [(k, v)]).length : Nat) : Int) = K at *
 clear hK h hl
 go_enter Tryz.func91, Tryz.ntmps91
 go_wp2_with fail
 refine hd.mono ?_
 rintro e w1 ⟨rfl, hw1⟩
 obtain rfl := hw1.symm
 go_wp2_with fail
 refine ht.mono ?_
 rintro e w2 ⟨rfl, q, rfl⟩
 have g1 := hg q
 have z1 := hz q
 have f1 := hfin q
 clear hg hz hfin
 go_wp2
 go_end0
 exact ⟨rfl, f1⟩
end Go.Proofs.YtoemoiehjdmheaaGreat.S
