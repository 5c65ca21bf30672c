import Derived.Test.YtmlpijjjkpnioaaDoorCCheckE
import Derived.Test.YtmlpijjjkpnioaaDoorKKnownL
/-! A writer of the call's own; effectBytes. -/
namespace Go.Proofs.YtmlpijjjkpnioaaDoor.C
open Go.RowKit
open Go.Proofs
open Go.Proofs.YtmlpijjjkpnioaaDoor.K
set_option linter.unusedVariables false
set_option linter.unusedSimpArgs false
set_option maxHeartbeats 1000000
set_option maxRecDepth 100000
/-- A writer that was made behind W0. -/
structure Lw (W0 : World) (bw : Nat) (W : World) (v : Value) (l : List UInt8) : Prop where
  wr : Wr W W0.heap.size bw v l
  bel : Below W0.heap.size W0 W
  bw0 : W0.heap.size ≤ bw
theorem Lw.step {W0 : World} {bw : Nat} {W W' : World} {v v' : Value} {l m : List UInt8} (h : Lw W0 bw W v l) (s : WStep bw W W' v v') (k : Wr W' W0.heap.size bw v' m) : Lw W0 bw W' v' m :=
  ⟨k, h.bel.trans (s.belowB h.bw0 (fun g e => (h.wr.row.lt g e).1) h.bel.size), h.bw0⟩
theorem Lw.next {W0 : World} {bw : Nat} {W W' : World} {v : Value} {l : List UInt8} (h : Lw W0 bw W v l) (b : Below W.heap.size W W') : Lw W0 bw W' v l :=
  ⟨h.wr.below b, h.bel.trans (b.mono h.bel.size), h.bw0⟩
theorem lw_new (W0 : World) : Lw W0 W0.heap.size (W0.alloc (.cells #[.slice none 0 0] 45)) (.slice none 0 0) [] :=
  ⟨⟨heap_alloc_new W0 _, row_nil _ _⟩, (Below.refl _ _).alloc (Nat.le_refl _) _, Nat.le_refl _⟩
/-- A block that the writer's steps leave alone. -/
theorem keep_step {bw : Nat} {W W' : World} {v v' : Value} {k : Nat} {o : Obj} (s : WStep bw W W' v v') (hk : W.heap[k]? = some o) (h1 : k ≠ bw) (h2 : some k ≠ v.ownBlock) : W'.heap[k]? = some o ∧ some k ≠ v'.ownBlock := by
  have hl := lt_of hk
  refine ⟨(s.block k hl h1 h2).trans hk, ?_⟩
  rcases s.own with e | e
  · rw [e]; exact h2
  · intro e2; have := e k e2.symm; omega
theorem lw_cell {W0 : World} {bw : Nat} {W : World} {v : Value} {l : List UInt8} (h : Lw W0 bw W v l) (x : Nat) (hx : x < 65536) (hl : l.length + 2 ≤ room) :
    Calls Tryd.prog 17 #[.pointer (some ⟨bw, 0, none⟩), .int .u16 (x : Int)] W fun e w' => e = .returned (.tuple #[]) ∧ ∃ v', Lw W0 bw w' v' (l ++ low 2 x) ∧ WStep bw W w' v v' :=
  (wcell_any W0.heap.size bw v x hx l hl W h.wr h.bel.size).mono fun e w' ⟨he, v', h1, h2⟩ => ⟨he, v', h.step h2 h1, h2⟩
theorem lw_byte {W0 : World} {bw : Nat} {W : World} {v : Value} {l : List UInt8} (h : Lw W0 bw W v l) (x : UInt8) (hl : l.length + 1 ≤ room) :
    Calls Tryd.prog 16 #[.pointer (some ⟨bw, 0, none⟩), .int .u8 (x.toNat : Int)] W fun e w' => e = .returned (.tuple #[]) ∧ ∃ v', Lw W0 bw w' v' (l ++ [x]) ∧ WStep bw W w' v v' :=
  (wbyte_any W0.heap.size bw v x l hl W h.wr h.bel.size).mono fun e w' ⟨he, v', h1, h2⟩ => ⟨he, v', h.step h2 h1, h2⟩
theorem lw_word {W0 : World} {bw : Nat} {W : World} {v : Value} {l : List UInt8} (h : Lw W0 bw W v l) (x : Nat) (hx : x < 4294967296) (hl : l.length + 4 ≤ room) :
    Calls Tryd.prog 18 #[.pointer (some ⟨bw, 0, none⟩), .int .u32 (x : Int)] W fun e w' => e = .returned (.tuple #[]) ∧ ∃ v', Lw W0 bw w' v' (l ++ low 4 x) ∧ WStep bw W w' v v' :=
  (wword_any W0.heap.size bw v x hx l hl W h.wr h.bel.size).mono fun e w' ⟨he, v', h1, h2⟩ => ⟨he, v', h.step h2 h1, h2⟩
theorem lw_bytes {W0 : World} {bw : Nat} {W : World} {v : Value} {l : List UInt8} (h : Lw W0 bw W v l) (u : Value) (m : List UInt8) (hu : Sl W u m) (hl : l.length + m.length ≤ room) :
    Calls Tryd.prog 15 #[.pointer (some ⟨bw, 0, none⟩), u] W fun e w' => e = .returned (.tuple #[]) ∧ ∃ v', Lw W0 bw w' v' (l ++ m) ∧ WStep bw W w' v v' :=
  (wbytes_any W0.heap.size bw v u l m hl W h.wr hu h.bel.size).mono fun e w' ⟨he, v', h1, h2⟩ => ⟨he, v', h.step h2 h1, h2⟩
theorem lw_done {W0 : World} {bw : Nat} {W : World} {v : Value} {l : List UInt8} (h : Lw W0 bw W v l) (hl : l.length ≤ room) :
    Calls Tryd.prog 19 #[.pointer (some ⟨bw, 0, none⟩)] W fun e w' => ∃ u, e = .returned u ∧ Row w' W.heap.size u l ∧ Below W.heap.size W w' :=
  wdone_any W0.heap.size bw v l hl W h.wr

theorem effB_append : ∀ a b : List Ef, effB (a ++ b) = effB a ++ effB b
  | [], b => rfl
  | x :: a, b => by simp [effB, effB_append a b]
theorem effB_take (es : List Ef) (k : Nat) (h : k < es.length) : effB (es.take (k + 1)) = effB (es.take k) ++ low 2 (es[k]).1 ++ low 2 (es[k]).2.1.toNat ++ low 2 (es[k]).2.2.toNat := by
  rw [List.take_succ_eq_append_getElem h, effB_append]; simp [effB]
theorem eff_heights : ∀ (es : List Ef) (p : Int), effG p es = true → ∀ x ∈ es, hgt x.2.1 = true ∧ hgt x.2.2 = true
  | [], _, _, x, h => by simp at h
  | y :: es, p, h, x, hx => by
    simp only [effG, Bool.and_eq_true] at h
    simp only [List.mem_cons] at hx
    rcases hx with rfl | hx
    · exact ⟨h.1.1.2, h.1.2⟩
    · exact eff_heights es _ h.2 x hx
theorem effectBytes_any (p : Option Addr) (c : Nat) (es : List Ef) (hm : effsB es = true) (hf : ∀ x ∈ es, x.1 < 65536) (w : World) (h : EfS w p es) :
    Calls Tryd.prog 61 #[.slice p es.length c] w fun e w' => ∃ u, e = .returned u ∧ Row w' w.heap.size u (effB es) ∧ Below w.heap.size w w' := by
  simp only [effsB, Bool.and_eq_true, decide_eq_true_eq] at hm
  obtain ⟨hm1, hm2⟩ := hm
  have hh := eff_heights es _ hm2
  have hl0 := lw_new w
  have HL := hid hl0
  clear hl0 hm2
  go_enter Tryd.func61, Tryd.ntmps61
  go_wp2
  go_loopw [8] (fun i wr => ∃ (k : Nat) (v : Value), k ≤ es.length ∧ i = .int .i64 (k : Int) ∧ Lw w w.heap.size wr v (effB (es.take k))) (fun i _ => es.length - (intOf i).toNat)
  case atStart => exact ⟨0, _, by omega, rfl, HL.out⟩
  case round =>
    clear HL
    obtain ⟨k, v, hk, rfl, hL⟩ := hrel
    have hlen : (effB (es.take k)).length ≤ 49152 := by rw [effB_len, List.length_take]; omega
    by_cases hlt : k < es.length
    case neg =>
      obtain rfl : k = es.length := by omega
      rw [List.take_length] at hL hlen
      have hd := lw_done hL (by unfold room; omega)
      have HL := hid hL
      clear hL
      go_wp2_with (first | (go_at_call 19; refine hd.mono ?_; rintro e w1 ⟨u, rfl, h1, h2⟩))
      go_ret
      exact ⟨_, rfl, h1.mono HL.out.bel.size, HL.out.bel.trans (h2.mono HL.out.bel.size)⟩
    have i1 : (k : Int) < es.length := by omega
    obtain ⟨b, ob, rfl, e1, e2, e3⟩ := h.below hL.bel k es[k] (List.getElem?_eq_getElem hlt)
    have hx := hh es[k] (List.getElem_mem hlt)
    have hy := hf es[k] (List.getElem_mem hlt)
    have htk := effB_take es k hlt
    rw [hgt_iff, hgt_iff] at hx
    generalize es[k] = t at *
    obtain ⟨a, i, o⟩ := t
    simp only at *
    obtain ⟨ii, rfl⟩ : ∃ n : Nat, i = (n : Int) := ⟨i.toNat, by omega⟩
    obtain ⟨oo, rfl⟩ : ∃ n : Nat, o = (n : Int) := ⟨o.toNat, by omega⟩
    simp only [Int.toNat_natCast] at htk
    have x1 : (ii : Int) % 65536 = ii := by omega
    have x2 : (oo : Int) % 65536 = oo := by omega
    have hbA : Below wr.heap.size wr (wr.alloc (.cells #[.int .u16 (a : Int), .int .i64 (ii : Int), .int .i64 (oo : Int)] 80)) := (Below.refl _ _).alloc (Nat.le_refl _) _
    have hLA := hL.next hbA
    have hn0 : (wr.alloc (.cells #[.int .u16 (a : Int), .int .i64 (ii : Int), .int .i64 (oo : Int)] 80)).heap[wr.heap.size]? = some (.cells [.int .u16 (a : Int), .int .i64 (ii : Int), .int .i64 (oo : Int)].toArray 80 (0, 0)) := heap_alloc_new wr _
    have hne : wr.heap.size ≠ w.heap.size := by have := hL.wr.lt; omega
    have hno : some wr.heap.size ≠ v.ownBlock := by intro e; have := (hL.wr.row.lt _ e.symm).2; omega
    have c1 := lw_cell hLA a hy (by unfold room; omega)
    have HT := hid htk
    have H0 := hid hn0
    have HE := hid hne
    have HO := hid hno
    have HX := hid hx
    have HK := hid hk
    clear hL hLA hbA hn0 hne hno htk hh hf h hx
    clear hk
    go_wp2_with fail
    refine c1.mono ?_
    rintro e w1 ⟨rfl, v1, hL1, hs1⟩
    obtain ⟨hn1, ho1⟩ := keep_step hs1 H0.out HE.out HO.out
    have k1 := cell_of w1 wr.heap.size 1 _ 80 _ hn1 rfl
    have c2 := lw_cell hL1 ii (by have := HX.out; omega) (by simp only [List.length_append, low_len]; unfold room; omega)
    have H1 := hid hn1
    have HO1 := hid ho1
    clear hn1 ho1 hs1 hL1 c1 H0 HO
    go_wp2_with fail
    refine c2.mono ?_
    rintro e w2 ⟨rfl, v2, hL2, hs2⟩
    obtain ⟨hn2, ho2⟩ := keep_step hs2 H1.out HE.out HO1.out
    have k2 := cell_of w2 wr.heap.size 2 _ 80 _ hn2 rfl
    have c3 := lw_cell hL2 oo (by have := HX.out; omega) (by simp only [List.length_append, low_len]; unfold room; omega)
    clear hn2 ho2 hs2 hL2 c2 H1 HO1 k1
    go_wp2_with fail
    refine c3.mono ?_
    rintro e w3 ⟨rfl, v3, hL3, hs3⟩
    rw [← HT.out] at hL3
    have HL3 := hid hL3
    clear hL3 hs3 c3 k2
    go_wp2
    go_roundw
    case rel =>
      first
        | exact ⟨k + 1, v3, by omega, by go_num, HL3.out⟩
        | ((repeat apply Exists.intro); refine ⟨⟨k + 1, v3, by omega, ?_, HL3.out⟩, rfl⟩; go_num)
    case measure => simp [intOf]; omega
end Go.Proofs.YtmlpijjjkpnioaaDoor.C
