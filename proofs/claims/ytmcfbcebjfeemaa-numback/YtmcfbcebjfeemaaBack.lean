import Derived.Test.YtmcfbcebjfeemaaMath
namespace Go.Proofs.Ytmcfbcebjfeemaa

theorem and_or (f a b : Nat) (h : a < 2 ^ f) : (a &&& b) + (a ||| b) = a + b := by
  induction f generalizing a b with
  | zero => have e : a = 0 := by omega
            subst e; simp
  | succ f ih =>
    have hi := ih (a / 2) (b / 2) (by omega)
    have d1 : (a &&& b) / 2 = a / 2 &&& b / 2 := Nat.and_div_two
    have d2 : (a ||| b) / 2 = a / 2 ||| b / 2 := Nat.or_div_two
    have m1 : (a &&& b) % 2 = 1 ↔ a % 2 = 1 ∧ b % 2 = 1 := Nat.and_mod_two_eq_one
    have m2 : (a ||| b) % 2 = 1 ↔ a % 2 = 1 ∨ b % 2 = 1 := Nat.or_mod_two_eq_one
    rw [← d1, ← d2] at hi
    generalize a &&& b = c at *
    generalize a ||| b = d at *
    omega

theorem bne_false {a b : Int} (h : a = b) : (a != b) = false := by rw [h]; exact bne_self_eq_false b

theorem k1 (x y : Int) (hx : C x) : (bi 22 (bi 21 x y) y != x) = false := by
  apply bne_false; unfold C at hx; simp [bi, biRaw, cl]; omega
theorem k2 (x y : Int) : (bi 21 x y != bi 21 y x) = false := by
  apply bne_false; simp [bi, biRaw, cl]; omega
theorem k3 (x y : Int) : (bi 23 x y != bi 23 y x) = false := by
  apply bne_false; simp [bi, biRaw, Int.mul_comm]
theorem k4 (x : Int) (hx : C x) : (un 28 (un 28 x) != x) = false := by
  apply bne_false; unfold C at hx; simp [un, unRaw, cl]; omega
theorem k5 (x : Int) (hx : C x) : (un 39 (un 39 x) != x) = false := by
  apply bne_false; unfold C at hx; simp [un, unRaw, cl]; omega
theorem k6 (x : Int) (hx : C x) : (un 33 (un 32 x) != x) = false := by
  apply bne_false; unfold C at hx; simp [un, unRaw, cl]; omega
theorem k7 (x : Int) : (un 34 x != bi 21 x x) = false := by
  apply bne_false; simp [un, unRaw, bi, biRaw]
theorem k8 (x : Int) : (un 34 x != bi 40 x 1) = false := by
  apply bne_false; simp [un, unRaw, bi, biRaw, cl]; omega
theorem k9 (x : Int) : (bi 41 x 1 != bi 26 x 2) = false := by
  apply bne_false; simp [bi, biRaw]
theorem k10 (x : Int) : (un 28 x != bi 22 0 x) = false := by
  apply bne_false; simp [un, unRaw, bi, biRaw]
theorem k11 (x : Int) (hx : C x) : (bi 38 x 65535 != un 39 x) = false := by
  apply bne_false
  rw [← un_39 x hx, ← bi_38 x 65535 hx (C_lit _ (by decide) (by decide)), Nat.xor_comm]
  unfold C at hx
  have h : (65535 : Int).toNat ^^^ x.toNat = 65535 - x.toNat := xor_ones x.toNat (by omega)
  rw [h]; omega
theorem k12 (x y : Int) (hx : C x) (hy : C y) : (bi 38 (bi 38 x y) y != x) = false := by
  apply bne_false
  rw [← bi_38 _ y (C_bi _ _ _) hy, ← bi_38 x y hx hy, Int.toNat_natCast, Nat.xor_assoc, Nat.xor_self, Nat.xor_zero]
  unfold C at hx; omega
theorem k13 (x y : Int) (hx : C x) (hy : C y) : (bi 21 (bi 36 x y) (bi 37 x y) != bi 21 x y) = false := by
  apply bne_false
  rw [← bi_36 x y hx, ← bi_37 x y hx hy]
  unfold C at hx hy
  have h := and_or 16 x.toNat y.toNat (by omega)
  simp only [bi, biRaw, cl, ite_true]
  generalize x.toNat &&& y.toNat = c at *
  generalize x.toNat ||| y.toNat = d at *
  omega
theorem k14 (x : Int) : bi 24 x 0 = 0 ∧ bi 25 x 0 = 0 ∧ bi 26 x 0 = 0 ∧ bi 27 x 0 = 0 := by
  simp [bi, biRaw, cl]
theorem bi_y0 (op x y : Int) (hy : y ≠ 0) (h : op = 24 ∨ op = 25 ∨ op = 26 ∨ op = 27) :
    bi op x y = cl (if op = 24 then (sg x).tdiv (sg y) else if op = 25 then (sg x).tmod (sg y) else if op = 26 then x / y else x % y) := by
  rcases h with h | h | h | h <;> subst h <;> simp [bi, biRaw, hy]
theorem back_mod (q y t r s x : Int) (h : t * q + r = s) (ey : t % 65536 = y % 65536) (e : s % 65536 = x % 65536) (hx : C x) : cl (cl (cl q * y) + cl r) = x := by
  unfold C at hx
  unfold cl
  have e1 : q % 65536 * y % 65536 = t * q % 65536 := by
    rw [Int.mul_emod, Int.emod_emod, ← ey, ← Int.mul_emod, Int.mul_comm]
  rw [e1]
  generalize t * q = p at *
  omega
theorem k15 (x y : Int) (hx : C x) (hy : y ≠ 0) : (bi 21 (bi 23 (bi 24 x y) y) (bi 25 x y) != x) = false := by
  apply bne_false
  have h := back_mod ((sg x).tdiv (sg y)) y (sg y) ((sg x).tmod (sg y)) (sg x) x (Int.mul_tdiv_add_tmod _ _) (sg_mod y) (sg_mod x) hx
  rw [bi_y0 24 x y hy (by simp), bi_y0 25 x y hy (by simp)]
  simpa only [bi, biRaw, Int.reduceEq, ite_true, ite_false] using h
theorem k16 (x y : Int) (hx : C x) (hy : y ≠ 0) : (bi 21 (bi 23 (bi 26 x y) y) (bi 27 x y) != x) = false := by
  apply bne_false
  have h := back_mod (x / y) y y (x % y) x x (Int.mul_ediv_add_emod _ _) rfl rfl hx
  rw [bi_y0 26 x y hy (by simp), bi_y0 27 x y hy (by simp)]
  simpa only [bi, biRaw, Int.reduceEq, ite_true, ite_false] using h
theorem k17 (x y : Int) (ky : C y) (hy : y ≠ 0) : bi 27 x y < y := by
  rw [bi_y0 27 x y hy (by simp)]
  simp only [Int.reduceEq, ite_false]
  unfold C at ky
  have h1 := Int.emod_nonneg x hy
  have h2 := Int.emod_lt_of_pos x (b := y) (by omega)
  unfold cl
  generalize x % y = r at *
  omega
theorem k18 (x y : Int) (hx : C x) (ky : C y) (hy : y ≠ 0) : sg (bi 25 x y) = (sg x).tmod (sg y) := by
  rw [bi_y0 25 x y hy (by simp)]
  simp only [Int.reduceEq, ite_false, ite_true]
  have hs := sg_range hx
  have ht := sg_range ky
  have h0 : sg y ≠ 0 := fun h => hy ((sg_zero ky).1 h)
  have h1 : ((sg x).tmod (sg y)).natAbs < (sg y).natAbs := by rw [Int.natAbs_tmod]; exact Nat.mod_lt _ (by omega)
  generalize (sg x).tmod (sg y) = r at *
  have h2 : -32767 ≤ r ∧ r ≤ 32767 := by omega
  unfold sg cl
  split <;> omega
theorem k19 (x y : Int) (hx : C x) (ky : C y) (hy : y ≠ 0) :
    sg (bi 25 x y) < ((sg y).natAbs : Int) ∧ -sg (bi 25 x y) < ((sg y).natAbs : Int) ∧ (0 ≤ sg x → 0 ≤ sg (bi 25 x y)) ∧ (sg x < 0 → sg (bi 25 x y) ≤ 0) := by
  rw [k18 x y hx ky hy]
  have h0 : sg y ≠ 0 := fun h => hy ((sg_zero ky).1 h)
  have h1 : ((sg x).tmod (sg y)).natAbs < (sg y).natAbs := by rw [Int.natAbs_tmod]; exact Nat.mod_lt _ (by omega)
  have h2 : 0 ≤ sg x → 0 ≤ (sg x).tmod (sg y) := fun h => Int.tmod_nonneg _ h
  have h3 : sg x < 0 → (sg x).tmod (sg y) ≤ 0 := fun h => by
    have := Int.tmod_nonneg (a := -sg x) (sg y) (by omega)
    rw [Int.neg_tmod] at this
    omega
  generalize (sg x).tmod (sg y) = r at *
  refine ⟨by omega, by omega, h2, h3⟩
end Go.Proofs.Ytmcfbcebjfeemaa
