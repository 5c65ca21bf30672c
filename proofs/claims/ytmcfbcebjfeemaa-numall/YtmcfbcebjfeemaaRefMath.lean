import Derived.Test.YtmcfbcebjfeemaaMath
namespace Go.Proofs.Ytmcfbcebjfeemaa

theorem tmod_neg (n : Int) (h : n < 0) : n.tmod 65536 = -((-n) % 65536) := by
  have e : n = -(-n) := by omega
  rw [e, Int.neg_tmod, Int.tmod_eq_emod_of_nonneg (by omega)]; omega
theorem cell_n1 (n : Int) (h : n < 0) (h2 : n.tmod 65536 < 0) : (n.tmod 65536 + 65536) = cl n := by
  rw [tmod_neg n h] at h2 ⊢; unfold cl; omega
theorem cell_n2 (n : Int) (h : n < 0) (h2 : ¬ n.tmod 65536 < 0) : n.tmod 65536 = cl n := by
  rw [tmod_neg n h] at h2 ⊢; unfold cl; omega
theorem tmod_neg_range (n : Int) (h : n < 0) : -65535 ≤ n.tmod 65536 ∧ n.tmod 65536 ≤ 0 := by
  rw [tmod_neg n h]; omega
theorem half_neg (n : Int) (h : n < 0) : n.tdiv 2 = -((-n) / 2) := by
  have e : n = -(-n) := by omega
  rw [e, Int.neg_tdiv, Int.tdiv_eq_ediv_of_nonneg (by omega)]; omega

def aw (n : Int) : Int := if n < 0 then -n else n
theorem rq_pp (x y : Int) (hx : 0 ≤ x) : x / y = x.tdiv y := (Int.tdiv_eq_ediv_of_nonneg hx).symm
theorem rq_np (x y : Int) (hx : x < 0) : -(-x / y) = x.tdiv y := by
  have e : x = -(-x) := by omega
  rw [e, Int.neg_tdiv, Int.tdiv_eq_ediv_of_nonneg (by omega)]; simp
theorem rq_pn (x y : Int) (hx : 0 ≤ x) : -(x / -y) = x.tdiv y := by
  have e : y = -(-y) := by omega
  rw [e, Int.tdiv_neg, Int.tdiv_eq_ediv_of_nonneg hx]; simp
theorem rq_nn (x y : Int) (hx : x < 0) : -x / -y = x.tdiv y := by
  have e : x.tdiv y = (-x).tdiv (-y) := by rw [Int.neg_tdiv_neg]
  rw [e, Int.tdiv_eq_ediv_of_nonneg (by omega)]
theorem ediv_range (x y : Int) (hx : 0 ≤ x) (h : x ≤ 65536) (hy : 0 < y) : 0 ≤ x / y ∧ x / y ≤ 65536 :=
  ⟨Int.ediv_nonneg hx (Int.le_of_lt hy), Int.le_trans (Int.ediv_le_self _ hx) h⟩

def zz (how : Int) (X Y : Nat) : Nat := if how = 36 then X &&& Y else if how = 37 then X ||| Y else X ^^^ Y
theorem zz_step (how : Int) (X Y k : Nat) : ((zz how X Y % 2 ^ (k + 1) : Nat) : Int) = ((zz how X Y % 2 ^ k : Nat) : Int) + 2 ^ k * ((zz how X Y / 2 ^ k % 2 : Nat) : Int) := by
  rw [Nat.pow_succ, Nat.mod_mul]; simp
theorem zz_and (X Y k : Nat) : zz 36 X Y / 2 ^ k % 2 = 1 ↔ X / 2 ^ k % 2 = 1 ∧ Y / 2 ^ k % 2 = 1 := by
  simp only [zz, ite_true, Nat.and_div_two_pow, Nat.and_mod_two_eq_one]
theorem zz_or (X Y k : Nat) : zz 37 X Y / 2 ^ k % 2 = 1 ↔ X / 2 ^ k % 2 = 1 ∨ Y / 2 ^ k % 2 = 1 := by
  simp only [zz, Int.reduceEq, ite_true, ite_false, Nat.or_div_two_pow, Nat.or_mod_two_eq_one]
theorem zz_xor (X Y k : Nat) : zz 38 X Y / 2 ^ k % 2 = 1 ↔ ¬ (X / 2 ^ k % 2 = 1 ↔ Y / 2 ^ k % 2 = 1) := by
  simp only [zz, Int.reduceEq, ite_false, Nat.xor_div_two_pow, Nat.xor_mod_two_eq_one]
theorem zz_lt (how : Int) (X Y : Nat) (hX : X < 65536) (hY : Y < 65536) : zz how X Y < 65536 := by
  unfold zz
  split
  · exact Nat.lt_of_le_of_lt Nat.and_le_left hX
  · split
    · exact Nat.or_lt_two_pow (n := 16) hX hY
    · exact Nat.xor_lt_two_pow (n := 16) hX hY
theorem zz_bi (how : Int) (h : how = 36 ∨ how = 37 ∨ how = 38) (x y : Int) (hx : C x) (hy : C y) : cl ((zz how x.toNat y.toNat % 2 ^ 16 : Nat) : Int) = bi how x y := by
  have hl : zz how x.toNat y.toNat < 65536 := zz_lt how _ _ (by unfold C at hx; omega) (by unfold C at hy; omega)
  rw [show zz how x.toNat y.toNat % 2 ^ 16 = zz how x.toNat y.toNat from by omega]
  rcases h with h | h | h <;> subst h <;> simp only [zz, bi, biRaw, Int.reduceEq, ite_true, ite_false]
/-- a round of the loop over bits: what is added to the sum -/
def zb (how : Int) (A B : Int) : Bool := if how = 36 then A + B == 2 else if how = 37 then decide (0 < A + B) else A + B == 1
theorem zz_round (how : Int) (h : how = 36 ∨ how = 37 ∨ how = 38) (x y V : Int) (k : Nat) (hx : C x) (hy : C y) (hV : V = 2 ^ k) :
    ((zz how x.toNat y.toNat % 2 ^ (k + 1) : Nat) : Int) = ((zz how x.toNat y.toNat % 2 ^ k : Nat) : Int) + (if zb how (x / V % 2) (y / V % 2) = true then V else 0) := by
  unfold C at hx hy
  obtain ⟨X, rfl⟩ := Int.eq_ofNat_of_zero_le hx.1
  obtain ⟨Y, rfl⟩ := Int.eq_ofNat_of_zero_le hy.1
  rw [zz_step, hV]
  have eA : ((X : Int) / 2 ^ k % 2) = ((X / 2 ^ k % 2 : Nat) : Int) := by simp
  have eB : ((Y : Int) / 2 ^ k % 2) = ((Y / 2 ^ k % 2 : Nat) : Int) := by simp
  rw [eA, eB, Int.toNat_natCast, Int.toNat_natCast]
  have ha : X / 2 ^ k % 2 < 2 := Nat.mod_lt _ (by decide)
  have hb : Y / 2 ^ k % 2 < 2 := Nat.mod_lt _ (by decide)
  have hz : zz how X Y / 2 ^ k % 2 < 2 := Nat.mod_lt _ (by decide)
  have key : ((zz how X Y / 2 ^ k % 2 : Nat) : Int) = if zb how ((X / 2 ^ k % 2 : Nat) : Int) ((Y / 2 ^ k % 2 : Nat) : Int) = true then 1 else 0 := by
    have l1 := zz_and X Y k
    have l2 := zz_or X Y k
    have l3 := zz_xor X Y k
    generalize X / 2 ^ k % 2 = a at *
    generalize Y / 2 ^ k % 2 = b at *
    rcases h with h | h | h <;> subst h
    · generalize zz 36 X Y / 2 ^ k % 2 = z at *
      simp only [zb, ite_true, beq_iff_eq]; split <;> omega
    · generalize zz 37 X Y / 2 ^ k % 2 = z at *
      simp only [zb, Int.reduceEq, ite_true, ite_false, decide_eq_true_eq]; split <;> omega
    · generalize zz 38 X Y / 2 ^ k % 2 = z at *
      simp only [zb, Int.reduceEq, ite_false, beq_iff_eq]; split <;> omega
  rw [key]
  split <;> simp
end Go.Proofs.Ytmcfbcebjfeemaa
