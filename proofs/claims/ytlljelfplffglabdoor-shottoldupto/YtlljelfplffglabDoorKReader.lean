import Derived.Test.YtlljelfplffglabDoorKWriter
import Derived.Deep.Slices
/-! The reader. -/
namespace Go.Proofs.YtlljelfplffglabDoor.K
open Go.RowKit
set_option linter.unusedVariables false

structure RStep (br : Nat) (W W' : World) : Prop where
  os : W'.os = W.os
  tape : W'.tape = W.tape
  output : W'.output = W.output
  size : W.heap.size ≤ W'.heap.size
  block : ∀ k, k < W.heap.size → k ≠ br → W'.heap[k]? = W.heap[k]?
theorem RStep.refl (br : Nat) (W : World) : RStep br W W := ⟨rfl, rfl, rfl, Nat.le_refl _, fun _ _ _ => rfl⟩
theorem RStep.trans {br : Nat} {a b c : World} (h : RStep br a b) (k : RStep br b c) : RStep br a c :=
  ⟨k.os.trans h.os, k.tape.trans h.tape, k.output.trans h.output, Nat.le_trans h.size k.size, fun x hx h1 => (k.block x (Nat.lt_of_lt_of_le hx h.size) h1).trans (h.block x hx h1)⟩
theorem RStep.of_below {br : Nat} {W W' : World} (h : Below W.heap.size W W') : RStep br W W' := ⟨h.os, h.tape, h.output, h.size, fun k hk _ => h.block k hk⟩
theorem RStep.of_set {br : Nat} (W : World) (j : Nat) (v : Value) : RStep br W (W.setCell ⟨br, j, none⟩ v) := ⟨rfl, rfl, rfl, by simp, fun k _ h => heap_setCell_other W ⟨br, j, none⟩ k v h⟩
theorem Sl.take {W : World} {p : Option Addr} {n c : Nat} {l : List UInt8} (h : Sl W (.slice p n c) l) (k : Nat) (hk : k ≤ l.length) : Sl W (.slice p k c) (l.take k) := by
  rcases h with ⟨e, rfl⟩ | ⟨x, c', e, hc, h⟩
  · cases e; obtain rfl : k = 0 := by simpa using hk
    exact .inl ⟨rfl, rfl⟩
  · simp only [Value.slice.injEq] at e
    obtain ⟨rfl, rfl, rfl⟩ := e
    refine .inr ⟨x, c, by simp; omega, by simp; omega, fun j b hj => h j b ?_⟩
    rw [List.getElem?_take] at hj
    split at hj
    · exact hj
    · cases hj
theorem Sl.drop {W : World} {p : Option Addr} {n c : Nat} {l : List UInt8} (h : Sl W (.slice p n c) l) (k : Nat) (hk : k ≤ l.length) : Sl W (.slice (if c = k then p else p.map (·.add k)) (n - k) (c - k)) (l.drop k) := by
  rcases h with ⟨e, rfl⟩ | ⟨x, c', e, hc, h⟩
  · cases e; obtain rfl : k = 0 := by simpa using hk
    exact .inl ⟨rfl, rfl⟩
  · simp only [Value.slice.injEq] at e
    obtain ⟨rfl, rfl, rfl⟩ := e
    by_cases hck : c = k
    · subst hck
      have h0 : l.length - c = 0 := by omega
      have h1 : l.drop c = [] := List.drop_eq_nil_of_le (by omega)
      rw [if_pos rfl, h1, h0]
      exact .inr ⟨x, c - c, rfl, by simp, fun j b hj => by simp at hj⟩
    · rw [if_neg hck]
      refine .inr ⟨x.add k, c - k, by simp, by simp; omega, fun j b hj => ?_⟩
      rw [List.getElem?_drop] at hj
      rw [Deep.add_add]
      exact h _ b hj
theorem own_slice (p : Option Addr) (n c n' c' k : Nat) : (Value.slice (if c = k then p else p.map (·.add k)) n' c').ownBlock = (Value.slice p n c).ownBlock := by
  cases p with
  | none => split <;> rfl
  | some x =>
    split
    · rfl
    · simp only [Option.map_some, Value.ownBlock]
      congr 1
      unfold Addr.add; split <;> rfl

/-- What a taking of n bytes gives, and leaves. -/
def tk (l : List UInt8) (e : Nat) (n : Int) : List UInt8 × List UInt8 × Nat :=
  if e ≠ 0 then ([], l, e) else if n < 0 ∨ (l.length : Int) < n then ([], l, 30) else (l.take n.toNat, l.drop n.toNat, 0)
theorem tk_err {l : List UInt8} {e : Nat} {n : Int} (h : e ≠ 0) : tk l e n = ([], l, e) := by simp [tk, h]
theorem tk_out {l : List UInt8} {n : Int} (h : n < 0 ∨ (l.length : Int) < n) : tk l 0 n = ([], l, 30) := by simp [tk, h]
theorem tk_in {l : List UInt8} (k : Nat) (h : k ≤ l.length) : tk l 0 (k : Int) = (l.take k, l.drop k, 0) := by
  have h2 : ¬ ((k : Int) < 0 ∨ (l.length : Int) < (k : Int)) := by omega
  simp [tk]; omega

theorem numL_append (a b : List UInt8) : numL (a ++ b) = numL a + 2 ^ (8 * a.length) * numL b := by
  induction a with
  | nil => simp [numL]
  | cons x a ih => simp only [List.cons_append, numL, ih, List.length_cons, show 8 * (a.length + 1) = 8 + 8 * a.length by omega, Nat.pow_add, Nat.mul_add, Nat.mul_assoc]; omega
theorem numL_lt (l : List UInt8) : numL l < 2 ^ (8 * l.length) := by
  induction l with
  | nil => simp [numL]
  | cons b l ih =>
    have := u8lt b
    simp only [numL, List.length_cons, show 8 * (l.length + 1) = 8 + 8 * l.length by omega, Nat.pow_add]
    have h2 : 2 ^ 8 * (numL l + 1) ≤ 2 ^ 8 * 2 ^ (8 * l.length) := Nat.mul_le_mul_left _ ih
    omega
theorem or_shift (n a b : Nat) (h : a < 2 ^ n) : a ||| (b * 2 ^ n) = a + b * 2 ^ n := by
  have := Nat.two_pow_add_eq_or_of_lt h b
  rw [Nat.or_comm, Nat.mul_comm b, ← this, Nat.add_comm]
theorem shl_or (A b k : Nat) (hk : k ≤ 3) (hb : b < 256) (hA : A < 2 ^ (8 * k)) : bits .or .u32 (A : Int) ((b : Int) * 2 ^ (8 * k) % 4294967296) = ((A + 2 ^ (8 * k) * b : Nat) : Int) := by
  have h1 : 2 ^ (8 * k) ≤ 2 ^ 24 := Nat.pow_le_pow_right (by decide) (by omega)
  have h2 : b * 2 ^ (8 * k) ≤ 255 * 2 ^ 24 := Nat.mul_le_mul (by omega) h1
  have h3 : ((b : Int) * 2 ^ (8 * k)) = ((b * 2 ^ (8 * k) : Nat) : Int) := by simp
  have h4 := or32 A (b * 2 ^ (8 * k)) (by omega) (by omega)
  rw [or_shift (8 * k) A b hA] at h4
  rw [h3, show (((b * 2 ^ (8 * k) : Nat) : Int) % 4294967296) = ((b * 2 ^ (8 * k) : Nat) : Int) by omega, h4, Nat.mul_comm]
theorem tk_len (l : List UInt8) (e : Nat) (n : Nat) : (tk l e (n : Int)).1.length ≤ n := by
  unfold tk
  split
  · simp
  · split
    · simp
    · simp; omega
theorem tk_le (l : List UInt8) (e : Nat) (n : Int) : (tk l e n).1.length ≤ l.length := by
  unfold tk
  split
  · simp
  · split
    · simp
    · simp; omega

end Go.Proofs.YtlljelfplffglabDoor.K
