import Derived.Test.YtlilefhmohkfkaaGreatDoorRNode
import Derived.Test.YtlilefhmohkfkaaGreatDoorRNodeB
namespace Go.Proofs.YtlilefhmohkfkaaGreatDoor.R
open Go.RowKit
open Go.Proofs
open Go.Proofs.YtlilefhmohkfkaaGreatDoor.Y (Nd Df Ps ndc dfc hid NV cells9)
set_option linter.unusedVariables false
set_option linter.unusedSimpArgs false
set_option maxHeartbeats 2000000
set_option maxRecDepth 100000
theorem own1_of (names : List ByteArray) (n : Nd) (i : Nat × Bool) (h1 : uses n = true) (h2 : fits names n = true) (h3 : ¬ (n.k = 9 /\ i.2 = true)) (h4 : ¬ (strc n.k = true /\ i.1 = 32)) : own1 names n i = 0 := by
 unfold own1
 rw [h1, h2, if_neg (by simp), if_neg (by simp), if_neg h3, if_neg h4]
theorem strc_9 : strc 9 = false := rfl
theorem uses_nil (n : Nd) (h : uses n = true) (h4 : strc n.k = false) : n.th = [] /\ n.el = [] := by
 unfold uses usesF at h
 simp only [Bool.and_eq_true, Bool.or_eq_true, decide_eq_true_eq, beq_iff_eq, h4] at h
 obtain ⟨a, b, _, _, _, c, d, _⟩ := h
 have hk : ¬ (4 <= n.k /\ n.k <= 8) := by
  intro hh
  unfold strc at h4
  simp [hh.1, hh.2] at h4
 constructor
 ·rcases c with c | c
  ·cases c
  ·simpa using c
 ·rcases d with (d | d) | d
  ·exact absurd d (by omega)
  ·exact absurd d.1 (by omega)
  ·simpa using d
theorem node_of (names : List ByteArray) (n : Nd) (g1 : ∀ m ∈ n.th, CN names m) (g2 : ∀ m ∈ n.el, CN names m) : CN names n := by
 intro tv ev O mb i W hO ht he hM hi
 obtain ⟨q1, d1, rfl, _, _⟩ := ht.ex
 obtain ⟨q2, d2, rfl, _, _⟩ := he.ex
 obtain ⟨dp, dO⟩ := i
 unfold ndc
 simp only at hi ⊢
 rw [ck_is]
 cases h1 : uses n with
 | false =>
  have E : own1 names n (dp, dO) = 100 := by unfold own1; rw [h1]; rfl
  rw [E, if_neg (by decide)]
  exact nd_100 names n q1 q2 d1 d2 mb dp dO W hM h1
 | true =>
 cases h2 : fits names n with
 | false =>
  have E : own1 names n (dp, dO) = 103 := by unfold own1; rw [h1, h2]; rfl
  rw [E, if_neg (by decide)]
  exact nd_103 names n q1 q2 d1 d2 mb dp dO W hM h1 h2
 | true =>
 by_cases h9 : n.k = 9 /\ dO = true
 ·have E : own1 names n (dp, dO) = 108 := by unfold own1; rw [h1, h2, if_neg (by simp), if_neg (by simp), if_pos h9]
  rw [E, if_neg (by decide)]
  exact nd_108 names n q1 q2 d1 d2 mb dp dO W hM h1 h2 (by simpa using h9.1) h9.2
 by_cases h32 : strc n.k = true /\ dp = 32
 ·have E : own1 names n (dp, dO) = 109 := by unfold own1; rw [h1, h2, if_neg (by simp), if_neg (by simp), if_neg h9, if_pos h32]
  rw [E, if_neg (by decide)]
  have hk : ¬ n.k = 9 := by intro c; rw [c, strc_9] at h32; cases h32.1
  exact nd_109 names n q1 q2 d1 d2 mb dp dO W hM h1 h2 (by simpa using hk) h32.1 (by simp [h32.2])
 rw [own1_of names n (dp, dO) h1 h2 h9 h32, if_pos rfl]
 have hB0 : ∀ (w : World), Below W.heap.size W w -> (∀ j, O j -> j < w.heap.size) := fun w hw j hj => Nat.lt_of_lt_of_le (hO j hj) hw.size
 have hin : (inn n (dp, dO)).1 <= 32 \/ (n.th = [] /\ n.el = []) := by
  cases h4 : strc n.k with
  | true => left; unfold inn; have : dp ≠ 32 := fun c => h32 ⟨h4, c⟩; simp only; omega
  | false => exact Or.inr (uses_nil n h1 h4)
 have hN1 : ∀ w, Below W.heap.size W w -> Calls Tryz.prog 66 #[.agg #[.map (some mb)], .slice q1 n.th.length d1, .agg #[.int .i64 ((dp : Int) + 1), .bool (dO || n.k == 8)]] w fun e w' => e = .returned (.int .i64 (cks names n.th (inn n (dp, dO)))) /\ Below w.heap.size w w' := fun w hw => by
  have := nodes_of names n.th g1 _ O mb (inn n (dp, dO)) w (hB0 w hw) (ht.below hw hO) (hM.below hw hM.lt) (hin.imp id fun h => h.1)
  exact this
 have hN2 : ∀ w, Below W.heap.size W w -> Calls Tryz.prog 66 #[.agg #[.map (some mb)], .slice q2 n.el.length d2, .agg #[.int .i64 ((dp : Int) + 1), .bool (dO || n.k == 8)]] w fun e w' => e = .returned (.int .i64 (cks names n.el (inn n (dp, dO)))) /\ Below w.heap.size w w' := fun w hw => by
  have := nodes_of names n.el g2 _ O mb (inn n (dp, dO)) w (hB0 w hw) (he.below hw hO) (hM.below hw hM.lt) (hin.imp id fun h => h.2)
  exact this
 cases dO with
 | true =>
  have hk : (n.k == 9) = false := by rw [Bool.eq_false_iff]; intro c; exact h9 ⟨by simpa using c, rfl⟩
  rw [Bool.true_or] at hN1 hN2
  cases h4 : strc n.k with
  | false => exact nd_a0 names n q1 q2 d1 d2 mb dp true W hM h1 h2 hk h4 rfl hi _ _ _ rfl hN1 hN2
  | true => exact nd_a1 names n q1 q2 d1 d2 mb dp true W hM h1 h2 hk h4 (by rw [Bool.eq_false_iff]; intro c; exact h32 ⟨h4, by have := eq_of_beq c; omega⟩) rfl hi _ _ _ rfl hN1 hN2
 | false =>
  rw [Bool.false_or] at hN1 hN2
  cases hk : (n.k == 9) with
  | true =>
   have h4 : strc n.k = false := by have := eq_of_beq hk; rw [this]; rfl
   exact nd_b9 names n q1 q2 d1 d2 mb dp false W hM h1 h2 hk h4 rfl hi _ _ _ rfl hN1 hN2
  | false =>
   cases h4 : strc n.k with
   | false => exact nd_b0 names n q1 q2 d1 d2 mb dp false W hM h1 h2 hk h4 rfl hi _ _ _ rfl hN1 hN2
   | true => exact nd_b1 names n q1 q2 d1 d2 mb dp false W hM h1 h2 hk h4 (by rw [Bool.eq_false_iff]; intro c; exact h32 ⟨h4, by have := eq_of_beq c; omega⟩) rfl hi _ _ _ rfl hN1 hN2
theorem node_any (names : List ByteArray) (n : Nd) : CN names n := Nd.ind (fun n g1 g2 => node_of names n g1 g2) n
theorem nodes_any (names : List ByteArray) (l : List Nd) (v : Value) (O : Nat -> Prop) (mb : Nat) (i : Nat × Bool) (W : World) (hO : ∀ j, O j -> j < W.heap.size) (h : NV W O v l) (hM : MP W mb (numb names 0)) (hi : i.1 <= 32) :
  Calls Tryz.prog 66 #[.agg #[.map (some mb)], v, .agg #[.int .i64 (i.1 : Int), .bool i.2]] W fun e w' => e = .returned (.int .i64 (cks names l i)) /\ Below W.heap.size W w' := nodes_of names l (fun m _ => node_any names m) v O mb i W hO h hM (Or.inl hi)
end Go.Proofs.YtlilefhmohkfkaaGreatDoor.R
