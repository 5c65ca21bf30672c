import Derived.Test.YthphmeckcmhijaaDoorBackMath
import Derived.Test.YthphmeckcmhijaaDoorReads
import Derived.Deep.QuietTactic
/-! again: what a reader has taken up a writer lays down as just these bytes. -/
namespace Go.Proofs.YthphmeckcmhijaaDoor
open Go.RowKit
set_option linter.unusedVariables false

theorem lay_len0 (k n : Int) (m : List UInt8) : (layOf k n m).length ≤ m.length + 10 := by
  have := form_len5 n
  unfold layOf
  repeat' split
  all_goals (try rw [low_len])
  all_goals (try simp)
  all_goals omega
theorem takes_below {W W' : World} {p : Option Addr} {ts : List (Int × Int)} (h : TakesS W p ts) (b : Below W.heap.size W W') : TakesS W' p ts := fun i t hi => by
  obtain ⟨x, o, e, h1, h2, h3, h4⟩ := h i t hi
  exact ⟨x, o, e, by rw [b.cell (World.block_lt_of_cell? W _ h1)]; exact h1, by rw [b.cell (World.block_lt_of_cell? W _ h2)]; exact h2, h3, h4⟩
/-- A writer and a reader beside one another. -/
structure AG (w W : World) (bw br gr : Nat) (vw vr : Value) (lw lr : List UInt8) (e : Nat) : Prop where
  below : Below w.heap.size w W
  wr : Wr W w.heap.size bw vw lw
  rd : Rd W br gr vr lr e
  n1 : br ≠ bw
  n2 : gr ≠ bw
  n3 : vw.ownBlock ≠ some br
  n4 : vw.ownBlock ≠ some gr
  lbw : w.heap.size ≤ bw
  lbr : w.heap.size ≤ br
  lg : gr < W.heap.size
theorem AG.size {w W : World} {bw br gr : Nat} {vw vr : Value} {lw lr : List UInt8} {e : Nat} (h : AG w W bw br gr vw vr lw lr e) : w.heap.size ≤ W.heap.size := h.below.size
theorem AG.next {w W W' : World} {bw br gr : Nat} {vw vr : Value} {lw lr : List UInt8} {e : Nat} (h : AG w W bw br gr vw vr lw lr e) (b : Below W.heap.size W W') : AG w W' bw br gr vw vr lw lr e :=
  ⟨h.below.trans (b.mono h.size), h.wr.below b, h.rd.below b, h.n1, h.n2, h.n3, h.n4, h.lbw, h.lbr, Nat.lt_of_lt_of_le h.lg b.size⟩
theorem AG.rstep {w W W' : World} {bw br gr : Nat} {vw vr vr' : Value} {lw lr lr' : List UInt8} {e e' : Nat} (h : AG w W bw br gr vw vr lw lr e) (s : RStep br W W') (hd : Rd W' br gr vr' lr' e') : AG w W' bw br gr vw vr' lw lr' e' :=
  ⟨h.below.trans (s.belowB h.lbr h.size), ⟨(s.block bw h.wr.lt (Ne.symm h.n1)).trans h.wr.blk, h.wr.row.kept fun g e hlt => s.block g hlt (by rintro rfl; exact h.n3 e)⟩, hd, h.n1, h.n2, h.n3, h.n4, h.lbw, h.lbr, Nat.lt_of_lt_of_le h.lg s.size⟩
theorem AG.wstep {w W W' : World} {bw br gr : Nat} {vw vw' vr : Value} {lw lw' lr : List UInt8} {e : Nat} (h : AG w W bw br gr vw vr lw lr e) (s : WStep bw W W' vw vw') (hw : Wr W' w.heap.size bw vw' lw') : AG w W' bw br gr vw' vr lw' lr e := by
  refine ⟨h.below.trans (s.belowB h.lbw (fun g e => (h.wr.row.lt g e).1) h.size), hw, ⟨(s.block br h.rd.lt h.n1 (fun e => h.n3 e.symm)).trans h.rd.blk, h.rd.sl.kept fun a u hc ho => ?_, h.rd.own, h.rd.len⟩, h.n1, h.n2, ?_, ?_, h.lbw, h.lbr, Nat.lt_of_lt_of_le h.lg s.size⟩
  · have hlt := World.block_lt_of_cell? W a hc
    have hg : a.block = gr := by
      rcases h.rd.own with e | e
      · rw [e] at ho; cases ho
      · rw [e] at ho; simpa using ho
    rw [World.cell?_of_block (w := W) (s.block a.block hlt (by rw [hg]; exact h.n2) (by rw [hg]; exact fun e => h.n4 e.symm))]; exact hc
  · rcases s.own with e | e
    · rw [e]; exact h.n3
    · intro e2; have := e br e2; have := h.rd.lt; omega
  · rcases s.own with e | e
    · rw [e]; exact h.n4
    · intro e2; have := e gr e2; have := h.lg; omega
theorem AG.drewN {w W : World} {bw br gr : Nat} {vw vr : Value} {lw lr : List UInt8} {e : Nat} (h : AG w W bw br gr vw vr lw lr e) (q : Nat) : AG w (W.drewN q) bw br gr vw vr lw lr e :=
  ⟨below_drewN h.below q, ⟨h.wr.blk, h.wr.row⟩, ⟨h.rd.blk, h.rd.sl, h.rd.own, h.rd.len⟩, h.n1, h.n2, h.n3, h.n4, h.lbw, h.lbr, h.lg⟩
theorem b_drew {W W' : World} (h : Below W.drew.heap.size W.drew W') : Below W.heap.size W W' := Below.trans (⟨rfl, rfl, rfl, Nat.le_refl _, fun _ _ => rfl⟩ : Below W.heap.size W W.drew) h
/-- What a taking leaves, and what was laid down for it. -/
def Aft (b : List UInt8) (j : Nat) (lw lr : List UInt8) (e : Nat) : Prop := (e = 0 ∧ ∃ j2, j2 ≤ b.length ∧ lw = b.take j2 ∧ lr = b.drop j2) ∨ (e ≠ 0 ∧ e < 1000 ∧ lr = b.drop j ∧ ∃ x, lw = b.take j ++ x ∧ x.length ≤ 1048600)
theorem take_more (b : List UInt8) (j n : Nat) : b.take j ++ (b.drop j).take n = b.take (j + n) := (List.take_add (l := b) (i := j) (j := n)).symm
theorem aft_tk (b : List UInt8) (j : Nat) (hj : j ≤ b.length) (hb : b.length ≤ 1048576) (n : Int) (lw : List UInt8) (h1 : (tk (b.drop j) 0 n).2.2 = 0 → lw = b.take j ++ (tk (b.drop j) 0 n).1) (h2 : (tk (b.drop j) 0 n).2.2 ≠ 0 → ∃ x, lw = b.take j ++ x ∧ x.length ≤ 1048600) : Aft b j lw (tk (b.drop j) 0 n).2.1 (tk (b.drop j) 0 n).2.2 := by
  by_cases hout : n < 0 ∨ ((b.drop j).length : Int) < n
  · rw [tk_out hout] at h2 ⊢
    exact .inr ⟨by simp, by simp, rfl, h2 (by simp)⟩
  · obtain ⟨k, rfl⟩ : ∃ k : Nat, n = (k : Int) := ⟨n.toNat, by omega⟩
    have hk : k ≤ (b.drop j).length := by omega
    rw [tk_in k hk] at h1 ⊢
    refine .inl ⟨rfl, j + k, by simp at hk; omega, ?_, ?_⟩
    · rw [h1 rfl]; exact take_more b j k
    · simp [List.drop_drop]
theorem nmA_zero (f : Nat) : ∀ (i s : Nat) (l : List UInt8), (nmA f i s l).2.2 ≠ 0 → (nmA f i s l).2.1 = 0 := by
  induction f with
  | zero => intro i s l _; simp [nmA]
  | succ f ih =>
    intro i s l h
    cases l with
    | nil => simp [nmA]
    | cons b r =>
      simp only [nmA] at h ⊢
      split at h
      · split at h
        · rename_i h1 h2; simp [h1, h2]
        · simp at h
      · rename_i h1; simp only [h1, if_false]; exact ih _ _ _ h
theorem nm_zero (l : List UInt8) (h : (nm l).2.2 ≠ 0) : (nm l).2.1 = 0 := nmA_zero 5 0 0 l h
theorem aft_low (b : List UInt8) (j : Nat) (hj : j ≤ b.length) (hb : b.length ≤ 1048576) (n : Nat) (hn : n ≤ 8) : Aft b j (b.take j ++ low n (numL (tk (b.drop j) 0 (n : Int)).1)) (tk (b.drop j) 0 (n : Int)).2.1 (tk (b.drop j) 0 (n : Int)).2.2 := by
  refine aft_tk b j hj hb (n : Int) _ (fun h => ?_) (fun _ => ⟨_, rfl, by rw [low_len]; omega⟩)
  congr 1
  have hl : (tk (b.drop j) 0 (n : Int)).1.length = n := by
    by_cases hout : (n : Int) < 0 ∨ ((b.drop j).length : Int) < n
    · rw [tk_out hout] at h; simp at h
    · rw [tk_in n (by omega)]; simp at hout ⊢; omega
  have := low_numL (tk (b.drop j) 0 (n : Int)).1
  rw [hl] at this
  exact this
theorem aft_nr (b : List UInt8) (j : Nat) (hj : j ≤ b.length) : Aft b j (b.take j ++ form (nr (b.drop j) 0).1) (nr (b.drop j) 0).2.1 (nr (b.drop j) 0).2.2 := by
  rw [nr_ok]
  by_cases h : (nm (b.drop j)).2.2 = 0
  · have hf := form_nm (b.drop j) h
    have hs := nm_size (b.drop j)
    refine .inl ⟨h, j + (nm (b.drop j)).2.1, by simp at hs; omega, ?_, by simp [List.drop_drop]⟩
    show b.take j ++ form (nm (b.drop j)).1 = _
    rw [← hf]; exact take_more b j _
  · have he := nmA_err 5 0 0 (b.drop j)
    have hz : (nm (b.drop j)).2.1 = 0 := nm_zero (b.drop j) h
    have hx : (nm (b.drop j)).1 < 2 ^ (7 * 5) := by
      have h2 := he.2
      rw [show nmA 5 0 0 (b.drop j) = nm (b.drop j) from rfl] at h2
      omega
    have hfl := form_len 5 (nm (b.drop j)).1 hx
    refine .inr ⟨h, he.1, by simp [hz], _, rfl, ?_⟩
    simp at hfl ⊢; omega
end Go.Proofs.YthphmeckcmhijaaDoor
