import Derived.Test.YtlljelfplffglaaHAp
import Derived.Laws.StructEq
/-! What differs, pure; the statements' own screen. -/
namespace Go.Proofs.Ytlljelfplffglaa.H
open Go.RowKit
open Go.Proofs
open Go.Proofs.Ytlljelfplffglaa.K
set_option linter.unusedVariables false
set_option linter.unusedSimpArgs false
set_option maxHeartbeats 2000000
set_option maxRecDepth 100000
def pos (c : Ch) : Int := 64 * c.y + c.x
theorem dfTo_all (a b : List UInt8) : ∀ k, (dfTo a b k).Pairwise (fun c d => pos c < pos d) ∧ ∀ c ∈ dfTo a b k, 0 ≤ c.x ∧ c.x ≤ 63 ∧ 0 ≤ c.y ∧ pos c < k ∧ c.o ≠ c.n
  | 0 => ⟨List.Pairwise.nil, fun c h => by cases h⟩
  | k + 1 => by
    obtain ⟨h1, h2⟩ := dfTo_all a b k
    rw [dfTo]
    by_cases e : a.getD k 0 = b.getD k 0
    · rw [if_pos e, List.append_nil]
      exact ⟨h1, fun c hc => by obtain ⟨q1, q2, q3, q4, q5⟩ := h2 c hc; exact ⟨q1, q2, q3, by omega, q5⟩⟩
    · rw [if_neg e]
      refine ⟨List.pairwise_append.2 ⟨h1, List.pairwise_singleton _ _, fun c hc d hd => ?_⟩, fun c hc => ?_⟩
      · simp only [List.mem_singleton] at hd
        subst hd
        have := (h2 c hc).2.2.2.1
        simp only [pos] at this ⊢
        omega
      · rcases List.mem_append.1 hc with hc | hc
        · obtain ⟨q1, q2, q3, q4, q5⟩ := h2 c hc; exact ⟨q1, q2, q3, by omega, q5⟩
        · simp only [List.mem_singleton] at hc
          subst hc
          exact ⟨by simp only; omega, by simp only; omega, by simp only; omega, by simp only [pos]; omega, e⟩
theorem ap_twice (a : List UInt8) (c : Ch) (r : List Ch) (h : c.o ≠ c.n) (hl : a.length = 3072) : ap a (c :: c :: r) = none := by
  rw [ap_fit]
  by_cases f : fit a c = true
  · rw [if_pos f, ap_fit, fit_no]
    · rfl
    · intro q
      have hi := fit_in a c f
      have := q.2.2.2.2
      rw [List.getD_eq_getElem?_getD, List.getElem?_set_self (by omega)] at this
      exact h this.symm
  · rw [if_neg f]
theorem screen_any (v : Value) (b : List UInt8) (hlb : b.length ≤ room) (w : World) (h : Sl w v b) :
    Calls Try.prog 8 #[v] w fun e w' => ∃ g c s, e = .returned (.slice (some ⟨g, 0, none⟩) 3072 c) ∧ s.length = 3072 ∧ Row w' w.heap.size (.slice (some ⟨g, 0, none⟩) 3072 c) s ∧ Below w.heap.size w w' := by
  unfold room at hlb
  obtain ⟨W0, hmk, hr0, hb0⟩ := make_full w
  obtain ⟨p, c, rfl, _⟩ := h.ex
  have HZ := hid (And.intro hr0 (And.intro hb0 h))
  clear hr0 hb0 h
  go_enter Try.func8, Try.ntmps8
  go_wp2
  go_loopw [4] (fun i wr => ∃ (k : Nat) (s : List UInt8), k ≤ 3072 ∧ i = .int .i64 (k : Int) ∧ s.length = 3072 ∧ Row wr w.heap.size (.slice (some ⟨w.heap.size, 0, none⟩) 3072 3072) s ∧ Below w.heap.size w wr) (fun i _ => 3072 - (intOf i).toNat)
  case atStart => exact ⟨0, zs, by omega, rfl, zs_len, HZ.out.1, HZ.out.2.1⟩
  case round =>
    obtain ⟨k, s, hk, rfl, hsl, hr, hb⟩ := hrel
    by_cases hlt : k < 3072
    · have i1 : (k : Int) < 3072 := by omega
      by_cases hz : 0 < b.length
      · have i2 : (0 : Int) < b.length := by omega
        have i3 : decide ((0 : Int) < (b.length : Int)) = true := decide_eq_true i2
        obtain ⟨x, cx, he, hcx⟩ := sl_at (HZ.out.2.2) (k % b.length) (Nat.mod_lt _ hz)
        simp only [Value.slice.injEq] at he
        obtain ⟨rfl, _, rfl⟩ := he
        have hcb := (hb.cell (World.block_lt_of_cell? w _ hcx)).trans hcx
        have q1 : (k : Int) % (b.length : Int) = ((k % b.length : Nat) : Int) := by omega
        have q2 : (k : Int).tmod (b.length : Int) = ((k % b.length : Nat) : Int) := by rw [Int.tmod_eq_emod_of_nonneg (by omega)]; exact q1
        have q3 : ((k % b.length : Nat) : Int) < b.length := by have := Nat.mod_lt k hz; omega
        have q4 : ¬ (b.length : Int) = 0 := by omega
        have q5 : (0 : Int) ≤ ((k % b.length : Nat) : Int) := by omega
        have q6 : ((k % b.length : Nat) : Int).toNat = k % b.length := by omega
        have hce := row_cell hr k (by omega)
        have hfz := row_fz hr k
        generalize b.getD (k % b.length) 0 = B at *
        have hst := row_store hr k (by omega) B
        have hbs : Below w.heap.size w (wr.setCell ⟨w.heap.size, k, none⟩ (.int .u8 (B.toNat : Int))) := hb.setCell (p := ⟨w.heap.size, k, none⟩) (Nat.le_refl _) _
        generalize (s[k]'(by omega)).toNat = old at hce
        generalize k % b.length = km at *
        have HE := hid (And.intro hst (And.intro hbs hsl))
        clear hst hbs hr hb hsl hcx
        go_wp2
        go_roundw
        case rel => exact ⟨k + 1, s.set k B, by omega, by go_num, by rw [List.length_set]; exact HE.out.2.2, HE.out.1, HE.out.2.1⟩
        case measure => simp [intOf]; omega
      · have i2 : (b.length : Int) = 0 := by omega
        have HE := hid (And.intro hr (And.intro hb hsl))
        clear hr hb hsl
        go_wp2
        go_ret
        exact ⟨_, _, s, rfl, HE.out.2.2, HE.out.1, HE.out.2.1⟩
    · obtain rfl : k = 3072 := by omega
      have HE := hid (And.intro hr (And.intro hb hsl))
      clear hr hb hsl
      go_wp2
      go_ret
      exact ⟨_, _, s, rfl, HE.out.2.2, HE.out.1, HE.out.2.1⟩
end Go.Proofs.Ytlljelfplffglaa.H
