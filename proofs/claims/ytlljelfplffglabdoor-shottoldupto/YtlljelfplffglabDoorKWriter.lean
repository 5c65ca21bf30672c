import Derived.Test.YtlljelfplffglabDoorKLeaf
/-! The writer. -/
namespace Go.Proofs.YtlljelfplffglabDoor.K
open Go.RowKit
set_option linter.unusedVariables false

def by8 (x : Nat) : UInt8 := UInt8.ofNat x
theorem by8_nat (x : Nat) : (by8 x).toNat = x % 256 := by simp [by8]
def low : Nat → Nat → List UInt8
  | 0, _ => []
  | k + 1, x => by8 x :: low k (x / 256)
def formF : Nat → Nat → List UInt8
  | 0, x => [by8 x]
  | f + 1, x => if x < 128 then [by8 x] else by8 (x % 128 + 128) :: formF f (x / 128)
theorem formF_eq (f : Nat) : ∀ (g x : Nat), x ≤ f → x ≤ g → formF f x = formF g x := by
  induction f with
  | zero =>
    intro g x h1 h2
    obtain rfl : x = 0 := by omega
    cases g with
    | zero => rfl
    | succ g => simp [formF]
  | succ f ih =>
    intro g x h1 h2
    cases g with
    | zero =>
      obtain rfl : x = 0 := by omega
      simp [formF]
    | succ g =>
      simp only [formF]
      by_cases h : x < 128
      · simp [h]
      · simp only [h, if_false]
        rw [ih g (x / 128) (by omega) (by omega)]
/-- The form of a number. -/
def form (x : Nat) : List UInt8 := formF x x
theorem form_lt {x : Nat} (h : x < 128) : form x = [by8 x] := by
  unfold form
  cases x with
  | zero => rfl
  | succ x => simp [formF, h]
theorem form_ge {x : Nat} (h : ¬ x < 128) : form x = by8 (x % 128 + 128) :: form (x / 128) := by
  unfold form
  cases x with
  | zero => omega
  | succ x =>
    simp only [formF, h, if_false]
    rw [formF_eq x ((x + 1) / 128) ((x + 1) / 128) (by omega) (by omega)]

/-- A writer at block bw that has laid down l. -/
structure Wr (W : World) (B bw : Nat) (v : Value) (l : List UInt8) : Prop where
  blk : W.heap[bw]? = some (.cells #[v] 67 (0, 0))
  row : Row W B v l
structure WStep (bw : Nat) (W W' : World) (v v' : Value) : Prop where
  os : W'.os = W.os
  tape : W'.tape = W.tape
  output : W'.output = W.output
  size : W.heap.size ≤ W'.heap.size
  block : ∀ k, k < W.heap.size → k ≠ bw → some k ≠ v.ownBlock → W'.heap[k]? = W.heap[k]?
  own : v'.ownBlock = v.ownBlock ∨ ∀ g, v'.ownBlock = some g → W.heap.size ≤ g
theorem WStep.of_below {bw : Nat} {W W' : World} (v : Value) (h : Below W.heap.size W W') : WStep bw W W' v v := ⟨h.os, h.tape, h.output, h.size, fun k hk _ _ => h.block k hk, .inl rfl⟩
theorem WStep.trans {bw : Nat} {a b c : World} {v v' v'' : Value} (h : WStep bw a b v v') (k : WStep bw b c v' v'') : WStep bw a c v v'' := by
  refine ⟨k.os.trans h.os, k.tape.trans h.tape, k.output.trans h.output, Nat.le_trans h.size k.size, fun x hx h1 h2 => ?_, ?_⟩
  · refine (k.block x (Nat.lt_of_lt_of_le hx h.size) h1 ?_).trans (h.block x hx h1 h2)
    rcases h.own with e | e
    · rw [e]; exact h2
    · intro e2; have := e x e2.symm; omega
  · rcases k.own with e | e
    · rcases h.own with e2 | e2
      · exact .inl (e.trans e2)
      · exact .inr fun g hg => e2 g (by rw [← e]; exact hg)
    · exact .inr fun g hg => Nat.le_trans h.size (e g hg)
theorem Wr.ne {W : World} {B bw : Nat} {v : Value} {l : List UInt8} (h : Wr W B bw v l) : some bw ≠ v.ownBlock := by
  intro e
  rcases h.row.2 with ⟨rfl, _⟩ | ⟨g, cap, cur, rfl, _, hg, _⟩
  · simp [Value.ownBlock] at e
  · simp [Value.ownBlock] at e; subst e; rw [h.blk] at hg; simp at hg
theorem Wr.lt {W : World} {B bw : Nat} {v : Value} {l : List UInt8} (h : Wr W B bw v l) : bw < W.heap.size := (Array.getElem?_eq_some_iff.1 h.blk).1
theorem Wr.below {W W' : World} {B bw : Nat} {v : Value} {l : List UInt8} (h : Wr W B bw v l) (b : Below W.heap.size W W') : Wr W' B bw v l := ⟨(b.block bw h.lt).trans h.blk, h.row.below b⟩
/-- Behind the append: the store. -/
theorem Wr.store {W W1 : World} {B bw : Nat} {v v' : Value} {l m : List UInt8} (h : Wr W B bw v l) (hg : Grew W W1 v v') (hr : Row W1 B v' (l ++ m)) :
    W1.cell? ⟨bw, 0, none⟩ = some v ∧ W1.frozen? ⟨bw, 0, none⟩ = false ∧ Wr (W1.setCell ⟨bw, 0, none⟩ v') B bw v' (l ++ m) ∧ WStep bw W (W1.setCell ⟨bw, 0, none⟩ v') v v' := by
  have hb1 : W1.heap[bw]? = some (.cells #[v] 67 (0, 0)) := (hg.block bw h.lt h.ne).trans h.blk
  have hne : v'.ownBlock ≠ some bw := by
    intro e
    rcases hr.2 with ⟨rfl, _⟩ | ⟨g, cap, cur, rfl, _, hgg, _⟩
    · simp [Value.ownBlock] at e
    · simp [Value.ownBlock] at e; subst e; rw [hb1] at hgg; simp at hgg
  refine ⟨cell_of_row W1 bw 0 _ _ _ hb1, frozen_of_row W1 bw 0 _ _ hb1, ⟨?_, ?_⟩, ?_⟩
  · rw [heap_setCell_same W1 bw 0 _ _ _ hb1]; simp
  · exact hr.kept fun g hg _ => heap_setCell_other W1 ⟨bw, 0, none⟩ g _ (by rintro rfl; exact hne hg)
  · refine ⟨hg.os, hg.tape, hg.output, by simpa using hg.size, fun k hk h1 h2 => ?_, hg.own⟩
    rw [heap_setCell_other W1 ⟨bw, 0, none⟩ k _ h1]
    exact hg.block k hk h2

set_option maxHeartbeats 1000000 in
set_option maxRecDepth 100000 in
theorem wbytes_any (B bw : Nat) (v u : Value) (l m : List UInt8) (hl : l.length + m.length ≤ room) (w : World) (h : Wr w B bw v l) (hu : Sl w u m) (hB : B ≤ w.heap.size) :
    Calls Tryd.prog 43 #[.pointer (some ⟨bw, 0, none⟩), u] w fun e w' => e = .returned (.tuple #[]) ∧ ∃ v', Wr w' B bw v' (l ++ m) ∧ WStep bw w w' v v' := by
  have hc0 : w.cell? ⟨bw, 0, none⟩ = some v := cell_of_row w bw 0 _ _ _ h.blk
  go_enter Tryd.func43, Tryd.ntmps43
  go_wp2_with (first | (at_builtin; refine wpList_append_bytes _ rfl _ _ rfl B v l rfl h.row _ m rfl hu hl hB ?_))
  intro v' w1 hr hg
  obtain ⟨s1, s2, s3, s4⟩ := h.store hg hr
  have S3 : Hid _ := s3
  have S4 : Hid _ := s4
  obtain ⟨p', c', hv', _⟩ := hr.sl.ex
  generalize (l ++ m).length = nn at hv'
  subst hv'
  clear s3 s4 hg hr
  go_wp2
  go_end0
  exact ⟨rfl, _, S3.out, S4.out⟩
set_option maxHeartbeats 1000000 in
set_option maxRecDepth 100000 in
theorem wbytes_nil (u : Value) (w : World) :
    Calls Tryd.prog 43 #[.pointer none, u] w fun e w' => e = .returned (.tuple #[]) ∧ w' = w := by
  go_enter Tryd.func43, Tryd.ntmps43
  go_wp2
  go_end0
  exact ⟨rfl, rfl⟩
set_option maxHeartbeats 1000000 in
set_option maxRecDepth 100000 in
theorem wbyte_any (B bw : Nat) (v : Value) (x : UInt8) (l : List UInt8) (hl : l.length + 1 ≤ room) (w : World) (h : Wr w B bw v l) (hB : B ≤ w.heap.size) :
    Calls Tryd.prog 31 #[.pointer (some ⟨bw, 0, none⟩), .int .u8 (x.toNat : Int)] w fun e w' => e = .returned (.tuple #[]) ∧ ∃ v', Wr w' B bw v' (l ++ [x]) ∧ WStep bw w w' v v' := by
  have hb1 : Below w.heap.size w (w.alloc (.cells #[.int .u8 (x.toNat : Int)] 5)) := (Below.refl _ _).alloc (Nat.le_refl _) _
  have hr1 := (row_of_alloc w w.heap.size (Nat.le_refl _) [x] (by simp [maxLen])).sl
  have hw1 := h.below hb1
  go_enter Tryd.func31, Tryd.ntmps31
  go_wp2_with fail
  refine (wbytes_any B bw v _ l [x] (by simpa using hl) _ hw1 hr1 (Nat.le_trans hB hb1.size)).mono ?_
  rintro e w' ⟨rfl, v', h1, h2⟩
  go_wp2
  go_end0
  exact ⟨rfl, v', h1, (WStep.of_below v hb1).trans h2⟩
theorem low2 (x : Nat) : low 2 x = [by8 x, by8 (x / 256)] := rfl
theorem low4 (x : Nat) : low 4 x = [by8 x, by8 (x / 256), by8 (x / 65536), by8 (x / 16777216)] := by
  simp [low, Nat.div_div_eq_div_mul]
set_option maxHeartbeats 1000000 in
set_option maxRecDepth 100000 in
theorem wcell_any (B bw : Nat) (v : Value) (x : Nat) (hx : x < 65536) (l : List UInt8) (hl : l.length + 2 ≤ room) (w : World) (h : Wr w B bw v l) (hB : B ≤ w.heap.size) :
    Calls Tryd.prog 30 #[.pointer (some ⟨bw, 0, none⟩), .int .u16 (x : Int)] w fun e w' => e = .returned (.tuple #[]) ∧ ∃ v', Wr w' B bw v' (l ++ low 2 x) ∧ WStep bw w w' v v' := by
  have e1 := by8_nat x
  have e2 := by8_nat (x / 256)
  have hb1 : Below w.heap.size w (w.alloc (.cells (bv (low 2 x)).toArray 5)) := (Below.refl _ _).alloc (Nat.le_refl _) _
  have hr1 := (row_of_alloc w w.heap.size (Nat.le_refl _) (low 2 x) (by simp [low2, maxLen])).sl
  have hw1 := h.below hb1
  have hbv : (bv (low 2 x)).toArray = #[.int .u8 ((x : Int) % 256), .int .u8 ((x : Int) / 256)] := by rw [low2]; simp [bv, e1, e2]; omega
  have hle : (low 2 x).length = 2 := rfl
  rw [hbv] at hr1 hb1 hw1
  rw [hle] at hr1
  go_enter Tryd.func30, Tryd.ntmps30
  go_wp2_with fail
  refine (wbytes_any B bw v _ l (low 2 x) (by simpa [low2] using hl) _ hw1 hr1 (Nat.le_trans hB hb1.size)).mono ?_
  rintro e w' ⟨rfl, v', h1, h2⟩
  go_wp2
  go_end0
  exact ⟨rfl, v', h1, (WStep.of_below v hb1).trans h2⟩
set_option maxHeartbeats 1000000 in
set_option maxRecDepth 100000 in
theorem wword_any (B bw : Nat) (v : Value) (x : Nat) (hx : x < 4294967296) (l : List UInt8) (hl : l.length + 4 ≤ room) (w : World) (h : Wr w B bw v l) (hB : B ≤ w.heap.size) :
    Calls Tryd.prog 29 #[.pointer (some ⟨bw, 0, none⟩), .int .u32 (x : Int)] w fun e w' => e = .returned (.tuple #[]) ∧ ∃ v', Wr w' B bw v' (l ++ low 4 x) ∧ WStep bw w w' v v' := by
  have e1 := by8_nat x
  have e2 := by8_nat (x / 256)
  have e3 := by8_nat (x / 65536)
  have e4 := by8_nat (x / 16777216)
  have hb1 : Below w.heap.size w (w.alloc (.cells (bv (low 4 x)).toArray 5)) := (Below.refl _ _).alloc (Nat.le_refl _) _
  have hr1 := (row_of_alloc w w.heap.size (Nat.le_refl _) (low 4 x) (by simp [low4, maxLen])).sl
  have hw1 := h.below hb1
  have hbv : (bv (low 4 x)).toArray = #[.int .u8 ((x : Int) % 256), .int .u8 ((x : Int) / 256 % 256), .int .u8 ((x : Int) / 65536 % 256), .int .u8 ((x : Int) / 16777216)] := by rw [low4]; simp [bv, e1, e2, e3, e4]; omega
  have hle : (low 4 x).length = 4 := rfl
  rw [hbv] at hr1 hb1 hw1
  rw [hle] at hr1
  go_enter Tryd.func29, Tryd.ntmps29
  go_wp2_with fail
  refine (wbytes_any B bw v _ l (low 4 x) (by simpa [low4] using hl) _ hw1 hr1 (Nat.le_trans hB hb1.size)).mono ?_
  rintro e w' ⟨rfl, v', h1, h2⟩
  go_wp2
  go_end0
  exact ⟨rfl, v', h1, (WStep.of_below v hb1).trans h2⟩
set_option maxHeartbeats 1000000 in
set_option maxRecDepth 100000 in
theorem wdone_any (B bw : Nat) (v : Value) (l : List UInt8) (hl : l.length ≤ room) (w : World) (h : Wr w B bw v l) :
    Calls Tryd.prog 33 #[.pointer (some ⟨bw, 0, none⟩)] w fun e w' => ∃ u, e = .returned u ∧ Row w' w.heap.size u l ∧ Below w.heap.size w w' := by
  have hc0 : w.cell? ⟨bw, 0, none⟩ = some v := cell_of_row w bw 0 _ _ _ h.blk
  go_enter Tryd.func33, Tryd.ntmps33
  go_wp2_with fail
  refine (clone_any v l hl w h.row.sl).mono ?_
  rintro e w' ⟨u, rfl, h1, h2⟩
  go_wp2
  go_ret
  exact ⟨_, rfl, h1, h2⟩
set_option maxHeartbeats 1000000 in
set_option maxRecDepth 100000 in
theorem wdone_nil (w : World) : Calls Tryd.prog 33 #[.pointer none] w fun e w' => e = .returned (.slice none 0 0) ∧ w' = w := by
  go_enter Tryd.func33, Tryd.ntmps33
  go_wp2
  go_ret
  exact ⟨rfl, rfl⟩
set_option maxHeartbeats 1000000 in
set_option maxRecDepth 100000 in
theorem wbyte_nil (x : Int) (w : World) : Calls Tryd.prog 31 #[.pointer none, .int .u8 x] w fun e w' => e = .returned (.tuple #[]) ∧ Below w.heap.size w w' := by
  have hb1 : Below w.heap.size w (w.alloc (.cells #[.int .u8 x] 5)) := (Below.refl _ _).alloc (Nat.le_refl _) _
  go_enter Tryd.func31, Tryd.ntmps31
  go_wp2_with fail
  refine (wbytes_nil _ _).mono ?_
  rintro e w' ⟨rfl, rfl⟩
  go_wp2
  go_end0
  exact ⟨rfl, hb1⟩
end Go.Proofs.YtlljelfplffglabDoor.K
