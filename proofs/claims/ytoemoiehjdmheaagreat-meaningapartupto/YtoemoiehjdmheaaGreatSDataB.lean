import Derived.Test.YtoemoiehjdmheaaGreatSKit
import Derived.Deep.RegionHeld
namespace Go.Proofs.YtoemoiehjdmheaaGreat.S
open Go.RowKit
open Go.Proofs
set_option linter.unusedVariables false
set_option linter.unusedSimpArgs false
theorem copyU (W : World) (b g o cc : Nat) (l x : List Int) (h : HasD W b l) (hx : Sl eU 1 W (some ⟨g, o, none⟩) x) (hl : l.length + x.length <= 256) :
  ∃ W', (Builtin.copy_ #[37, 37] 3 #[.slice (some ⟨b, l.length, none⟩) (256 - l.length) (256 - l.length), .slice (some ⟨g, o, none⟩) x.length cc]).run Tryz.prog W = .ok (.int .i64 (x.length : Int)) W' /\
   W'.heap[b]? = some (.cells ((pc eU 0 l).take l.length ++ en eU x ++ (pc eU 0 l).drop (l.length + x.length)).toArray 104 (0, 0)) /\ At b W W' := by
 have hm : Nat.min x.length (256 - l.length) = x.length := Nat.min_eq_left (by omega)
 have hr := run_copy_rows (P := Tryz.prog) W 37 37 3 57 b l.length (256 - l.length) (256 - l.length) 1 ⟨g, o, none⟩ x.length cc (pc eU 0 l).toArray 104 (en eU x) Tryz.underlying37 size32 h.1 (by rw [en_len hU, hm])
  (fun j u hj => hx.news hU (by omega) j u hj) (by rw [en_len hU, List.size_toArray, pc_len hU 0 l h.2]; omega) (oneU x)
 rw [hm, en_len hU, Nat.mul_one] at hr
 exact ⟨_, hr, setRow_eq W b _ 104 _ h.1, rfl, rfl, rfl, by rw [size_setRow]; exact Nat.le_refl _, fun k _ hk => setRow_other W b k _ hk⟩
set_option maxHeartbeats 1000000
set_option maxRecDepth 100000
theorem dput (b : Nat) (l x : List Int) (g o c : Nat) (w : World) (h : HasD w b l) (hx : Sl eU 1 w (some ⟨g, o, none⟩) x) (hl : l.length + x.length <= 256) (h0 : 0 < x.length) :
  Calls Tryz.prog 88 #[.pointer (some ⟨b, 0, none⟩), .int .i64 256, .slice (some ⟨g, o, none⟩) x.length c] w fun e w' => e = .returned (.bool true) /\ HasD w' b (l ++ x) /\ At b w w' := by
 have cn := h.count
 have hd : HasD w.drew b l := h
 obtain ⟨w1, hcp, hb1, t1⟩ := copyU w.drew b g o c l x hd hx hl
 have hp := pc_put hU 0 l x hl
 simp only [Nat.mul_one] at hp
 have c1 : w1.cell? ⟨b, 256, none⟩ = some (.int .i64 (l.length : Int)) := by
  refine cell_of _ b 256 _ 104 _ hb1 ?_
  have e1 : ((pc eU 0 l).take l.length ++ en eU x).length = l.length + x.length := by rw [List.length_append, List.length_take, pc_len hU 0 l h.2, en_len hU]; omega
  rw [List.getElem?_append_right (by rw [e1]; omega), e1, List.getElem?_drop, show l.length + x.length + (256 - (l.length + x.length)) = 256 * 1 by omega]
  exact pc_count hU 0 l h.2
 have z1 := frozen_of w1 b 256 _ 104 hb1
 have h2 : HasD (w1.setCell ⟨b, 256, none⟩ (.int .i64 ((l.length : Int) + (x.length : Int)))) b (l ++ x) := by
  refine ⟨?_, by rw [List.length_append]; exact hl⟩
  rw [setCell_heap w1 b 256 _ 104 _ hb1, hp]
 have t2 : At b w (w1.setCell ⟨b, 256, none⟩ (.int .i64 ((l.length : Int) + (x.length : Int)))) := by
  have : At b w w1 := ⟨t1.os, t1.tape, t1.output, t1.size, t1.block⟩
  exact this.setCell b _ rfl _
 have e1 : IntKind.i64.wrap (256 - (l.length : Int)) = 256 - (l.length : Int) := i64_id _ (by omega) (by omega)
 have e2 : decide (256 - (l.length : Int) < (x.length : Int)) = false := by simp; omega
 have e3 : IntKind.i64.wrap ((l.length : Int) + (x.length : Int)) = (l.length : Int) + (x.length : Int) := i64_id _ (by omega) (by omega)
 have hk : (l.length : Int) <= 256 := by omega
 have e4 : ¬ (256 = l.length) := by omega
 clear hp hb1 t1 hx h hd
 go_enter Tryz.func88, Tryz.ntmps88
 go_wp2_with fail
 go_region
 go_wp2
 go_ret
 exact ⟨rfl, h2, t2⟩
theorem dput_no (b : Nat) (l x : List Int) (p : Option Addr) (c : Nat) (w : World) (h : HasD w b l) (hl : 256 < l.length + x.length) (hx : x.length <= room) :
  Calls Tryz.prog 88 #[.pointer (some ⟨b, 0, none⟩), .int .i64 256, .slice p x.length c] w fun e w' => e = .returned (.bool false) /\ w' = w := by
 have cn := h.count
 have h2 := h.2
 unfold room at hx
 have e1 : IntKind.i64.wrap (256 - (l.length : Int)) = 256 - (l.length : Int) := i64_id _ (by omega) (by omega)
 have e2 : decide (256 - (l.length : Int) < (x.length : Int)) = true := by simp; omega
 clear h
 go_enter Tryz.func88, Tryz.ntmps88
 go_wp2
 go_ret
 exact ⟨rfl, rfl⟩
theorem dpush0 (p : Value) (q : Option Addr) (c : Nat) (w : World) : Calls Tryz.prog 68 #[p, .slice q 0 c] w fun e w' => e = .returned (.int .i64 0) /\ w' = w := by
 go_enter Tryz.func68, Tryz.ntmps68
 go_wp2
 go_ret
 exact ⟨rfl, rfl⟩
theorem dpush_yes (b : Nat) (l x : List Int) (p : Option Addr) (c : Nat) (w : World) (h : HasD w b l) (hx : Sl eU 1 w p x) (hl : l.length + x.length <= 256) :
  Calls Tryz.prog 68 #[.pointer (some ⟨b, 0, none⟩), .slice p x.length c] w fun e w' => e = .returned (.int .i64 0) /\ HasD w' b (l ++ x) /\ At b w w' := by
 rcases Nat.eq_zero_or_pos x.length with h0 | h0
 ·obtain rfl := List.eq_nil_of_length_eq_zero h0
  refine (dpush0 _ p c w).mono ?_
  rintro e w' ⟨rfl, rfl⟩
  exact ⟨rfl, by simpa using h, Tc.refl _ _⟩
 ·obtain ⟨g, o, rfl, _⟩ := hx 0 x[0] (List.getElem?_eq_getElem h0)
  have hp := dput b l x g o c w h hx hl h0
  have e1 : ((x.length : Int) == 0) = false := beq_eq_false_iff_ne.2 (by omega)
  clear h hx
  go_enter Tryz.func68, Tryz.ntmps68
  go_wp2_with fail
  refine hp.mono ?_
  rintro e w1 ⟨rfl, h1, t1⟩
  go_wp2
  go_ret
  exact ⟨rfl, h1, t1⟩
theorem dpush_no (b : Nat) (l x : List Int) (p : Option Addr) (c : Nat) (w : World) (h : HasD w b l) (hl : 256 < l.length + x.length) (hx : x.length <= room) :
  Calls Tryz.prog 68 #[.pointer (some ⟨b, 0, none⟩), .slice p x.length c] w fun e w' => e = .returned (.int .i64 2) /\ w' = w := by
 have h2 := h.2
 have hp := dput_no b l x p c w h hl hx
 have e1 : ((x.length : Int) == 0) = false := beq_eq_false_iff_ne.2 (by omega)
 clear h
 go_enter Tryz.func68, Tryz.ntmps68
 go_wp2_with fail
 refine hp.mono ?_
 rintro e w1 ⟨rfl, rfl⟩
 go_wp2
 go_ret
 exact ⟨rfl, rfl⟩
def need (n : Nat) (i o : Int) : Int := if (n : Int) < max i 0 then 1 else if 256 < (n : Int) - max i 0 + max o 0 then 2 else 0
theorem dneed (b : Nat) (l : List Int) (i o : Int) (w : World) (h : HasD w b l) : Calls Tryz.prog 69 #[.pointer (some ⟨b, 0, none⟩), .int .i64 i, .int .i64 o] w fun e w' => e = .returned (.int .i64 (need l.length i o)) /\ w' = w := by
 have hd := dlen b l w h
 have hl := h.len_lt
 clear h
 have hm : ∀ z : Int, max z 0 = if z < 0 then 0 else z := fun z => by split <;> omega
 unfold need
 rw [hm, hm]
 by_cases a1 : i < 0
 ·by_cases a2 : o < 0
  ·rw [if_pos a1, if_pos a2]
   have e1 : decide ((l.length : Int) < 0) = false := decide_eq_false (by omega)
   have e2 : IntKind.i64.wrap ((l.length : Int) - 0) = (l.length : Int) - 0 := i64_id _ (by omega) (by omega)
   have e3 : IntKind.i64.wrap (256 - ((l.length : Int) - 0)) = 256 - ((l.length : Int) - 0) := i64_id _ (by omega) (by omega)
   have e4 : decide (256 - ((l.length : Int) - 0) < 0) = false := decide_eq_false (by omega)
   rw [if_neg (by omega), if_neg (by omega)]
   go_enter Tryz.func69, Tryz.ntmps69
   go_wp2_with fail
   refine hd.mono ?_
   rintro e w1 ⟨rfl, rfl⟩
   go_wp2_with fail
   refine hd.mono ?_
   rintro e w1 ⟨rfl, rfl⟩
   go_wp2
   go_ret
   exact ⟨rfl, rfl⟩
  ·rw [if_pos a1, if_neg a2]
   by_cases a4 : 256 < (l.length : Int) - 0 + o
   ·have a5 := a4
    have e1 : decide ((l.length : Int) < 0) = false := decide_eq_false (by omega)
    have e2 : IntKind.i64.wrap ((l.length : Int) - 0) = (l.length : Int) - 0 := i64_id _ (by omega) (by omega)
    have e3 : IntKind.i64.wrap (256 - ((l.length : Int) - 0)) = 256 - ((l.length : Int) - 0) := i64_id _ (by omega) (by omega)
    have e4 : decide (256 - ((l.length : Int) - 0) < o) = true := decide_eq_true (by omega)
    rw [if_neg (by omega), if_pos (by omega)]
    go_enter Tryz.func69, Tryz.ntmps69
    go_wp2_with fail
    refine hd.mono ?_
    rintro e w1 ⟨rfl, rfl⟩
    go_wp2_with fail
    refine hd.mono ?_
    rintro e w1 ⟨rfl, rfl⟩
    go_wp2
    go_ret
    exact ⟨rfl, rfl⟩
   ·have a5 := a4
    have e1 : decide ((l.length : Int) < 0) = false := decide_eq_false (by omega)
    have e2 : IntKind.i64.wrap ((l.length : Int) - 0) = (l.length : Int) - 0 := i64_id _ (by omega) (by omega)
    have e3 : IntKind.i64.wrap (256 - ((l.length : Int) - 0)) = 256 - ((l.length : Int) - 0) := i64_id _ (by omega) (by omega)
    have e4 : decide (256 - ((l.length : Int) - 0) < o) = false := decide_eq_false (by omega)
    rw [if_neg (by omega), if_neg (by omega)]
    go_enter Tryz.func69, Tryz.ntmps69
    go_wp2_with fail
    refine hd.mono ?_
    rintro e w1 ⟨rfl, rfl⟩
    go_wp2_with fail
    refine hd.mono ?_
    rintro e w1 ⟨rfl, rfl⟩
    go_wp2
    go_ret
    exact ⟨rfl, rfl⟩
 ·by_cases a2 : o < 0
  ·rw [if_neg a1, if_pos a2]
   by_cases a3 : (l.length : Int) < i
   ·have a5 := a3
    have e1 : decide ((l.length : Int) < i) = true := decide_eq_true (by omega)
    rw [if_pos (by omega)]
    go_enter Tryz.func69, Tryz.ntmps69
    go_wp2_with fail
    refine hd.mono ?_
    rintro e w1 ⟨rfl, rfl⟩
    go_wp2
    go_ret
    exact ⟨rfl, rfl⟩
   ·have a5 := a3
    have e1 : decide ((l.length : Int) < i) = false := decide_eq_false (by omega)
    have e2 : IntKind.i64.wrap ((l.length : Int) - i) = (l.length : Int) - i := i64_id _ (by omega) (by omega)
    have e3 : IntKind.i64.wrap (256 - ((l.length : Int) - i)) = 256 - ((l.length : Int) - i) := i64_id _ (by omega) (by omega)
    have e4 : decide (256 - ((l.length : Int) - i) < 0) = false := decide_eq_false (by omega)
    rw [if_neg (by omega), if_neg (by omega)]
    go_enter Tryz.func69, Tryz.ntmps69
    go_wp2_with fail
    refine hd.mono ?_
    rintro e w1 ⟨rfl, rfl⟩
    go_wp2_with fail
    refine hd.mono ?_
    rintro e w1 ⟨rfl, rfl⟩
    go_wp2
    go_ret
    exact ⟨rfl, rfl⟩
  ·rw [if_neg a1, if_neg a2]
   by_cases a3 : (l.length : Int) < i
   ·have a5 := a3
    have e1 : decide ((l.length : Int) < i) = true := decide_eq_true (by omega)
    rw [if_pos (by omega)]
    go_enter Tryz.func69, Tryz.ntmps69
    go_wp2_with fail
    refine hd.mono ?_
    rintro e w1 ⟨rfl, rfl⟩
    go_wp2
    go_ret
    exact ⟨rfl, rfl⟩
   ·by_cases a4 : 256 < (l.length : Int) - i + o
    ·have a5 := a4
     have e1 : decide ((l.length : Int) < i) = false := decide_eq_false (by omega)
     have e2 : IntKind.i64.wrap ((l.length : Int) - i) = (l.length : Int) - i := i64_id _ (by omega) (by omega)
     have e3 : IntKind.i64.wrap (256 - ((l.length : Int) - i)) = 256 - ((l.length : Int) - i) := i64_id _ (by omega) (by omega)
     have e4 : decide (256 - ((l.length : Int) - i) < o) = true := decide_eq_true (by omega)
     rw [if_neg (by omega), if_pos (by omega)]
     go_enter Tryz.func69, Tryz.ntmps69
     go_wp2_with fail
     refine hd.mono ?_
     rintro e w1 ⟨rfl, rfl⟩
     go_wp2_with fail
     refine hd.mono ?_
     rintro e w1 ⟨rfl, rfl⟩
     go_wp2
     go_ret
     exact ⟨rfl, rfl⟩
    ·have a5 := a4
     have e1 : decide ((l.length : Int) < i) = false := decide_eq_false (by omega)
     have e2 : IntKind.i64.wrap ((l.length : Int) - i) = (l.length : Int) - i := i64_id _ (by omega) (by omega)
     have e3 : IntKind.i64.wrap (256 - ((l.length : Int) - i)) = 256 - ((l.length : Int) - i) := i64_id _ (by omega) (by omega)
     have e4 : decide (256 - ((l.length : Int) - i) < o) = false := decide_eq_false (by omega)
     rw [if_neg (by omega), if_neg (by omega)]
     go_enter Tryz.func69, Tryz.ntmps69
     go_wp2_with fail
     refine hd.mono ?_
     rintro e w1 ⟨rfl, rfl⟩
     go_wp2_with fail
     refine hd.mono ?_
     rintro e w1 ⟨rfl, rfl⟩
     go_wp2
     go_ret
     exact ⟨rfl, rfl⟩
end Go.Proofs.YtoemoiehjdmheaaGreat.S
