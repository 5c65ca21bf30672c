import Derived.Test.YtcmaccefjlgbfaaDuoA
import Derived.Test.YtcmaccefjlgbfaaDuoB
import Derived.Test.YtcmaccefjlgbfaaDuoC
import Derived.Test.YtcmaccefjlgbfaaDuoE
import Derived.Test.YtcmaccefjlgbfaaDuoF
import Derived.Test.YtcmaccefjlgbfaaDuoG
/-! Any step of the pair. -/
namespace Go.Proofs.Ytcmaccefjlgbfaa
open Go.RowKit
open Go.Proofs
set_option linter.unusedVariables false
set_option linter.unusedSimpArgs false
theorem tm2 (wh : Int) : wh.tmod 2 = -1 ∨ wh.tmod 2 = 0 ∨ wh.tmod 2 = 1 := by
  by_cases h : 0 ≤ wh
  · rw [Int.tmod_eq_emod_of_nonneg h]; omega
  · have e : wh.tmod 2 = -((-wh).tmod 2) := by rw [Int.neg_tmod, Int.neg_neg]
    rw [e, Int.tmod_eq_emod_of_nonneg (by omega)]; omega
theorem which (wh : Int) : (wrap64 (wh.tmod 2 + 2)).tmod 2 = 0 ∨ (wrap64 (wh.tmod 2 + 2)).tmod 2 = 1 := by
  have hw : ∀ x : Int, 0 ≤ x → x < 10 → wrap64 x = x := fun x h0 h1 => by unfold wrap64; omega
  rcases tm2 wh with e | e | e <;> rw [e, hw _ (by decide) (by decide)]
  · exact .inr rfl
  · exact .inl rfl
  · exact .inr rfl
theorem plays_any (B p : Nat) (k wh at' X Y C N : Int) (z0 : 0 ≤ at') (z1 : at' < 65536) (x0 : 0 ≤ X) (x1 : X < 65536) (y0 : 0 ≤ Y) (y1 : Y < 65536) (T : Nat) (hT : T ≤ 900000) (W : World) {c mb rb : Nat → Nat} {s : Nat → MS} (h : Duo W B p c mb rb s s) (ht : ∀ j, j < 2 → (s j).tones.length ≤ T) :
    Calls Try.prog 34 #[.pointer (some ⟨p, 0, none⟩), .agg #[.int .i64 k, .int .i64 wh, .int .u16 at', .int .u16 X, .int .u16 Y, .int .u16 C, .int .i64 N]] W fun e w' => e = .returned (.bool true) ∧ PlE B p (T + 3) W w' := by
  rcases which wh with hw | hw
  · by_cases c1 : k = 1
    · subst c1; exact play1_0 B p wh at' X Y C N z0 z1 x0 x1 y0 y1 hw T hT W h ht
    by_cases c2 : k = 2
    · subst c2; exact play2_0 B p wh at' X Y C N z0 z1 x0 x1 y0 y1 hw T hT W h ht
    by_cases c3 : k = 3
    · subst c3; exact play3_0 B p wh at' X Y C N z0 z1 x0 x1 y0 y1 hw T hT W h ht
    by_cases c4 : k = 4
    · subst c4; exact play4_0 B p wh at' X Y C N z0 z1 x0 x1 y0 y1 hw T hT W h ht
    by_cases c5 : k = 5
    · subst c5; exact play5_0 B p wh at' X Y C N z0 z1 x0 x1 y0 y1 hw T hT W h ht
    by_cases c6 : k = 6
    · subst c6; exact play6_0 B p wh at' X Y C N z0 z1 x0 x1 y0 y1 hw T hT W h ht
    by_cases c7 : k = 7
    · subst c7; exact play7_0 B p wh at' X Y C N z0 z1 x0 x1 y0 y1 hw T hT W h ht
    by_cases c8 : k = 8
    · subst c8; exact play8_0 B p wh at' X Y C N z0 z1 x0 x1 y0 y1 hw T hT W h ht
    by_cases c9 : k = 9
    · subst c9; exact play9_0 B p wh at' X Y C N z0 z1 x0 x1 y0 y1 hw T hT W h ht
    by_cases c10 : k = 10
    · subst c10; exact play10_0 B p wh at' X Y C N z0 z1 x0 x1 y0 y1 hw T hT W h ht
    by_cases c11 : k = 11
    · subst c11; exact play11_0 B p wh at' X Y C N z0 z1 x0 x1 y0 y1 hw T hT W h ht
    by_cases c12 : k = 12
    · subst c12; exact play12_0 B p wh at' X Y C N z0 z1 x0 x1 y0 y1 hw T hT W h ht
    by_cases c13 : k = 13
    · subst c13; exact play13_0 B p wh at' X Y C N z0 z1 x0 x1 y0 y1 hw T hT W h ht
    by_cases c14 : k = 14
    · subst c14; exact play14_0 B p wh at' X Y C N z0 z1 x0 x1 y0 y1 hw T hT W h ht
    exact play0_0 B p k wh at' X Y C N (beq_eq_false_iff_ne.2 c1) (beq_eq_false_iff_ne.2 c2) (beq_eq_false_iff_ne.2 c3) (beq_eq_false_iff_ne.2 c4) (beq_eq_false_iff_ne.2 c5) (beq_eq_false_iff_ne.2 c6) (beq_eq_false_iff_ne.2 c7) (beq_eq_false_iff_ne.2 c8) (beq_eq_false_iff_ne.2 c9) (beq_eq_false_iff_ne.2 c10) (beq_eq_false_iff_ne.2 c11) (beq_eq_false_iff_ne.2 c12) (beq_eq_false_iff_ne.2 c13) (beq_eq_false_iff_ne.2 c14) z0 z1 x0 x1 y0 y1 hw T hT W h ht
  · by_cases c1 : k = 1
    · subst c1; exact play1_1 B p wh at' X Y C N z0 z1 x0 x1 y0 y1 hw T hT W h ht
    by_cases c2 : k = 2
    · subst c2; exact play2_1 B p wh at' X Y C N z0 z1 x0 x1 y0 y1 hw T hT W h ht
    by_cases c3 : k = 3
    · subst c3; exact play3_1 B p wh at' X Y C N z0 z1 x0 x1 y0 y1 hw T hT W h ht
    by_cases c4 : k = 4
    · subst c4; exact play4_1 B p wh at' X Y C N z0 z1 x0 x1 y0 y1 hw T hT W h ht
    by_cases c5 : k = 5
    · subst c5; exact play5_1 B p wh at' X Y C N z0 z1 x0 x1 y0 y1 hw T hT W h ht
    by_cases c6 : k = 6
    · subst c6; exact play6_1 B p wh at' X Y C N z0 z1 x0 x1 y0 y1 hw T hT W h ht
    by_cases c7 : k = 7
    · subst c7; exact play7_1 B p wh at' X Y C N z0 z1 x0 x1 y0 y1 hw T hT W h ht
    by_cases c8 : k = 8
    · subst c8; exact play8_1 B p wh at' X Y C N z0 z1 x0 x1 y0 y1 hw T hT W h ht
    by_cases c9 : k = 9
    · subst c9; exact play9_1 B p wh at' X Y C N z0 z1 x0 x1 y0 y1 hw T hT W h ht
    by_cases c10 : k = 10
    · subst c10; exact play10_1 B p wh at' X Y C N z0 z1 x0 x1 y0 y1 hw T hT W h ht
    by_cases c11 : k = 11
    · subst c11; exact play11_1 B p wh at' X Y C N z0 z1 x0 x1 y0 y1 hw T hT W h ht
    by_cases c12 : k = 12
    · subst c12; exact play12_1 B p wh at' X Y C N z0 z1 x0 x1 y0 y1 hw T hT W h ht
    by_cases c13 : k = 13
    · subst c13; exact play13_1 B p wh at' X Y C N z0 z1 x0 x1 y0 y1 hw T hT W h ht
    by_cases c14 : k = 14
    · subst c14; exact play14_1 B p wh at' X Y C N z0 z1 x0 x1 y0 y1 hw T hT W h ht
    exact play0_1 B p k wh at' X Y C N (beq_eq_false_iff_ne.2 c1) (beq_eq_false_iff_ne.2 c2) (beq_eq_false_iff_ne.2 c3) (beq_eq_false_iff_ne.2 c4) (beq_eq_false_iff_ne.2 c5) (beq_eq_false_iff_ne.2 c6) (beq_eq_false_iff_ne.2 c7) (beq_eq_false_iff_ne.2 c8) (beq_eq_false_iff_ne.2 c9) (beq_eq_false_iff_ne.2 c10) (beq_eq_false_iff_ne.2 c11) (beq_eq_false_iff_ne.2 c12) (beq_eq_false_iff_ne.2 c13) (beq_eq_false_iff_ne.2 c14) z0 z1 x0 x1 y0 y1 hw T hT W h ht
end Go.Proofs.Ytcmaccefjlgbfaa
/-! The pair as the law makes it: the four memories lie in ranges of blocks, one behind the other. -/
namespace Go.Proofs.Ytcmaccefjlgbfaa
open Go.RowKit
open Go.Proofs
set_option linter.unusedVariables false
set_option linter.unusedSimpArgs false
def cl4 (a0 a1 a2 a3 a4 a5 k : Nat) : Nat := if k < a0 then 0 else if k < a1 then 1 else if k < a2 then 3 else if k < a3 then 0 else if k < a4 then 2 else if k < a5 then 4 else 0
theorem Duo.make {W : World} {B p a0 a1 a2 a3 a4 a5 b0 b1 d0 d1 : Nat} {m : MS} (h0 : HasM W (fun k => a0 ≤ k ∧ k < a1) b0 m) (r0 : IsR W (fun k => a1 ≤ k ∧ k < a2) d0 m) (h1 : HasM W (fun k => a3 ≤ k ∧ k < a4) b1 m) (r1 : IsR W (fun k => a4 ≤ k ∧ k < a5) d1 m)
    (z0 : B ≤ a0) (z1 : a0 ≤ a1) (z2 : a1 ≤ a2) (z3 : a2 ≤ a3) (z4 : a3 ≤ a4) (z5 : a4 ≤ a5) (zp : a5 ≤ p) (hp : W.heap[p]? = some (.cells [ptr b0, ptr b1, ptr d0, ptr d1].toArray 73 (0, 0))) :
    Duo W B p (cl4 a0 a1 a2 a3 a4 a5) (fun i => if i = 0 then b0 else b1) (fun i => if i = 0 then d0 else d1) (fun _ => m) (fun _ => m) := by
  have e1 : ∀ k, a0 ≤ k ∧ k < a1 → cl4 a0 a1 a2 a3 a4 a5 k = 1 := fun k f => by unfold cl4; rw [if_neg (by omega), if_pos (by omega)]
  have e3 : ∀ k, a1 ≤ k ∧ k < a2 → cl4 a0 a1 a2 a3 a4 a5 k = 3 := fun k f => by unfold cl4; rw [if_neg (by omega), if_neg (by omega), if_pos (by omega)]
  have e2 : ∀ k, a3 ≤ k ∧ k < a4 → cl4 a0 a1 a2 a3 a4 a5 k = 2 := fun k f => by unfold cl4; rw [if_neg (by omega), if_neg (by omega), if_neg (by omega), if_neg (by omega), if_pos (by omega)]
  have e4 : ∀ k, a4 ≤ k ∧ k < a5 → cl4 a0 a1 a2 a3 a4 a5 k = 4 := fun k f => by unfold cl4; rw [if_neg (by omega), if_neg (by omega), if_neg (by omega), if_neg (by omega), if_neg (by omega), if_pos (by omega)]
  have g1 : HasM W (fun k => cl4 a0 a1 a2 a3 a4 a5 k = 1 + 0) b0 m := h0.mono fun k _ f => e1 k f
  have g2 : HasM W (fun k => cl4 a0 a1 a2 a3 a4 a5 k = 1 + 1) b1 m := h1.mono fun k _ f => e2 k f
  have g3 : IsR W (fun k => cl4 a0 a1 a2 a3 a4 a5 k = 3 + 0) d0 m := r0.mono fun k _ f => e3 k f
  have g4 : IsR W (fun k => cl4 a0 a1 a2 a3 a4 a5 k = 3 + 1) d1 m := r1.mono fun k _ f => e4 k f
  refine ⟨fun i hi => ?_, fun i hi => ?_, hp, ?_, by omega, fun k hk => ?_⟩
  · match i, hi with
    | 0, _ => exact g1
    | 1, _ => exact g2
  · match i, hi with
    | 0, _ => exact g3
    | 1, _ => exact g4
  · unfold cl4; rw [if_neg (by omega), if_neg (by omega), if_neg (by omega), if_neg (by omega), if_neg (by omega), if_neg (by omega)]
  · unfold cl4; rw [if_pos (by omega)]
/-- The pair in the loop over the script: i steps are done. -/
def SP (B p : Nat) (w wr : World) (i : Nat) : Prop := PlE B p (3 * i) w wr
theorem SP.step {B p i : Nat} {w wr w' : World} (h : SP B p w wr i) (k : PlE B p (3 * i + 3) wr w') : SP B p w w' (i + 1) := by
  obtain ⟨⟨c, mb, rb, s, D, ht⟩, hb⟩ := k
  exact ⟨⟨c, mb, rb, s, D, fun j hj => Nat.le_trans (ht j hj) (by omega)⟩, h.2.trans hb⟩
theorem SP.drew {B p i : Nat} {w wr : World} (h : SP B p w wr i) (q : Nat) : SP B p w (wr.drewN q) i := by
  obtain ⟨⟨c, mb, rb, s, D, ht⟩, hb⟩ := h
  exact ⟨⟨c, mb, rb, s, D.below ⟨rfl, rfl, rfl, Nat.le_refl _, fun _ _ => rfl⟩, ht⟩, hb.trans ⟨rfl, rfl, rfl, Nat.le_refl _, fun _ _ => rfl⟩⟩
end Go.Proofs.Ytcmaccefjlgbfaa
