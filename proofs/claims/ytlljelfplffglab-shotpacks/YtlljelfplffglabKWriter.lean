import Derived.Test.YtlljelfplffglabKLeaf
/-! The writer. -/
namespace Go.Proofs.Ytlljelfplffglab.K
open Go.RowKit
set_option linter.unusedVariables false

def by8 (x : Nat) : UInt8 := UInt8.ofNat x
theorem by8_nat (x : Nat) : (by8 x).toNat = x % 256 := by simp [by8]
def low : Nat → Nat → List UInt8
  | 0, _ => []
  | k + 1, x => by8 x :: low k (x / 256)
def formF : Nat → Nat → List UInt8
  | 0, x => [by8 x]
  | f + 1, x => if x < 128 then [by8 x] else by8 (x % 128 + 128) :: formF f (x / 128)
theorem formF_eq (f : Nat) : ∀ (g x : Nat), x ≤ f → x ≤ g → formF f x = formF g x := by
  induction f with
  | zero =>
    intro g x h1 h2
    obtain rfl : x = 0 := by omega
    cases g with
    | zero => rfl
    | succ g => simp [formF]
  | succ f ih =>
    intro g x h1 h2
    cases g with
    | zero =>
      obtain rfl : x = 0 := by omega
      simp [formF]
    | succ g =>
      simp only [formF]
      by_cases h : x < 128
      · simp [h]
      · simp only [h, if_false]
        rw [ih g (x / 128) (by omega) (by omega)]
/-- The form of a number. -/
def form (x : Nat) : List UInt8 := formF x x
theorem form_lt {x : Nat} (h : x < 128) : form x = [by8 x] := by
  unfold form
  cases x with
  | zero => rfl
  | succ x => simp [formF, h]
theorem form_ge {x : Nat} (h : ¬ x < 128) : form x = by8 (x % 128 + 128) :: form (x / 128) := by
  unfold form
  cases x with
  | zero => omega
  | succ x =>
    simp only [formF, h, if_false]
    rw [formF_eq x ((x + 1) / 128) ((x + 1) / 128) (by omega) (by omega)]

structure WStep (bw : Nat) (W W' : World) (v v' : Value) : Prop where
  os : W'.os = W.os
  tape : W'.tape = W.tape
  output : W'.output = W.output
  size : W.heap.size ≤ W'.heap.size
  block : ∀ k, k < W.heap.size → k ≠ bw → some k ≠ v.ownBlock → W'.heap[k]? = W.heap[k]?
  own : v'.ownBlock = v.ownBlock ∨ ∀ g, v'.ownBlock = some g → W.heap.size ≤ g
theorem WStep.of_below {bw : Nat} {W W' : World} (v : Value) (h : Below W.heap.size W W') : WStep bw W W' v v := ⟨h.os, h.tape, h.output, h.size, fun k hk _ _ => h.block k hk, .inl rfl⟩
theorem WStep.trans {bw : Nat} {a b c : World} {v v' v'' : Value} (h : WStep bw a b v v') (k : WStep bw b c v' v'') : WStep bw a c v v'' := by
  refine ⟨k.os.trans h.os, k.tape.trans h.tape, k.output.trans h.output, Nat.le_trans h.size k.size, fun x hx h1 h2 => ?_, ?_⟩
  · refine (k.block x (Nat.lt_of_lt_of_le hx h.size) h1 ?_).trans (h.block x hx h1 h2)
    rcases h.own with e | e
    · rw [e]; exact h2
    · intro e2; have := e x e2.symm; omega
  · rcases k.own with e | e
    · rcases h.own with e2 | e2
      · exact .inl (e.trans e2)
      · exact .inr fun g hg => e2 g (by rw [← e]; exact hg)
    · exact .inr fun g hg => Nat.le_trans h.size (e g hg)
theorem low2 (x : Nat) : low 2 x = [by8 x, by8 (x / 256)] := rfl
theorem low4 (x : Nat) : low 4 x = [by8 x, by8 (x / 256), by8 (x / 65536), by8 (x / 16777216)] := by
  simp [low, Nat.div_div_eq_div_mul]
end Go.Proofs.Ytlljelfplffglab.K
