import Derived.Test.YtcmaccefjlgbfaaROps
import Derived.Test.YtcmaccefjlgbfaaPCopyW
import Derived.Test.YtcmaccefjlgbfaaRImage
/-! The pair: two memories on both sides; c tells which block belongs to which (1, 2: the program's; 3, 4: the reference's; 0: the rest). -/
namespace Go.Proofs.Ytcmaccefjlgbfaa
open Go.RowKit
open Go.Proofs
set_option linter.unusedVariables false
set_option linter.unusedSimpArgs false
/-- One place of a function is another. -/
def up {α : Type} (f : Nat → α) (i : Nat) (x : α) : Nat → α := fun k => if k = i then x else f k
theorem up_at {α : Type} (f : Nat → α) (i : Nat) (x : α) : up f i x i = x := by simp [up]
theorem up_ne {α : Type} (f : Nat → α) (i k : Nat) (x : α) (h : k ≠ i) : up f i x k = f k := by simp [up, h]
/-- The cells of the pair's own block. -/
def pcells (mb rb : Nat → Nat) : List Value := [ptr (mb 0), ptr (mb 1), ptr (rb 0), ptr (rb 1)]
/-- The pair at the block p; s: what the program's memories stand for, q: the reference's. -/
structure Duo (W : World) (B p : Nat) (c : Nat → Nat) (mb rb : Nat → Nat) (s q : Nat → MS) : Prop where
  a : ∀ i, i < 2 → HasM W (fun k => c k = 1 + i) (mb i) (s i)
  b : ∀ i, i < 2 → IsR W (fun k => c k = 3 + i) (rb i) (q i)
  pb : W.heap[p]? = some (.cells (pcells mb rb).toArray 73 (0, 0))
  pc : c p = 0
  bp : B ≤ p
  lo : ∀ k, k < B → c k = 0
theorem Duo.sz {W : World} {B p : Nat} {c mb rb : Nat → Nat} {s q : Nat → MS} (h : Duo W B p c mb rb s q) : B < W.heap.size := Nat.lt_of_le_of_lt h.bp (lt_of h.pb)
/-- New blocks alone. -/
theorem Duo.below {W W' : World} {B p : Nat} {c mb rb : Nat → Nat} {s q : Nat → MS} (h : Duo W B p c mb rb s q) (k : Below W.heap.size W W') : Duo W' B p c mb rb s q :=
  ⟨fun i hi => (h.a i hi).kept fun j hj _ => k.block j hj, fun i hi => (h.b i hi).below k, (k.block p (lt_of h.pb)).trans h.pb, h.pc, h.bp, h.lo⟩
/-- The new blocks get the color d. -/
def dye (c : Nat → Nat) (n d : Nat) : Nat → Nat := fun k => if n ≤ k then d else c k
theorem dye_lt (c : Nat → Nat) (n d k : Nat) (h : k < n) : dye c n d k = c k := by unfold dye; rw [if_neg (by omega)]
theorem dye_ge (c : Nat → Nat) (n d k : Nat) (h : n ≤ k) : dye c n d k = d := by unfold dye; rw [if_pos h]
/-- A memory of another color, behind a call that touched only the color d. -/
theorem Duo.keepM {W W' : World} {c : Nat → Nat} {d e b : Nat} {m : MS} (h : HasM W (fun k => c k = e) b m) (t : Tc (fun k => c k = d) W W') (hde : e ≠ d) : HasM W' (fun k => dye c W.heap.size d k = e) b m :=
  (h.mono (G := fun k => c k = e ∧ k < W.heap.size) (fun i hi f => ⟨f, hi⟩)).kept (fun i hi f => t.block i hi (by intro g; exact hde (f.1.symm.trans g))) |>.mono fun i hi f => (dye_lt c _ _ _ f.2).trans f.1
theorem Duo.keepR {W W' : World} {c : Nat → Nat} {d e b : Nat} {m : MS} (h : IsR W (fun k => c k = e) b m) (t : Tc (fun k => c k = d) W W') (hde : e ≠ d) : IsR W' (fun k => dye c W.heap.size d k = e) b m :=
  (h.mono (G := fun k => c k = e ∧ k < W.heap.size) (fun i hi f => ⟨f, hi⟩)).kept (fun i hi f => t.block i hi (by intro g; exact hde (f.1.symm.trans g))) |>.mono fun i hi f => (dye_lt c _ _ _ f.2).trans f.1
theorem gr_dye {W W' : World} {c : Nat → Nat} {d : Nat} {k : Nat} (h : gr (fun k => c k = d) W W' k) : dye c W.heap.size d k = d := by
  by_cases hk : W.heap.size ≤ k
  · exact dye_ge _ _ _ _ hk
  · rcases h with f | ⟨f, _⟩
    · exact (dye_lt _ _ _ _ (by omega)).trans f
    · exact absurd f hk
theorem Duo.low {W W' : World} {B p : Nat} {c mb rb : Nat → Nat} {s q : Nat → MS} (h : Duo W B p c mb rb s q) {d : Nat} (hd : d ≠ 0) (t : Tc (fun k => c k = d) W W') : Below B W W' :=
  ⟨t.os, t.tape, t.output, t.size, fun i hi => t.block i (by have := h.sz; omega) (by intro f; exact hd (f.symm.trans (h.lo i hi)))⟩
/-- A call of the program's memory i. -/
theorem Duo.stepM {W W' : World} {B p : Nat} {c mb rb : Nat → Nat} {s q : Nat → MS} (h : Duo W B p c mb rb s q) (i : Nat) (hi : i < 2) {m' : MS} (k : Done W W' (fun k => c k = 1 + i) (mb i) m') :
    Duo W' B p (dye c W.heap.size (1 + i)) mb rb (up s i m') q ∧ Below B W W' := by
  have t := k.2
  refine ⟨⟨fun j hj => ?_, fun j hj => Duo.keepR (h.b j hj) t (by omega), (t.block p (lt_of h.pb) (by intro f; have := f.symm.trans h.pc; omega)).trans h.pb, (dye_lt _ _ _ _ (lt_of h.pb)).trans h.pc, h.bp, fun j hj => (dye_lt _ _ _ _ (by have := h.sz; omega)).trans (h.lo j hj)⟩, h.low (by omega) t⟩
  by_cases e : j = i
  · subst e; rw [up_at]; exact k.1.mono fun _ _ f => gr_dye f
  · rw [up_ne _ _ _ _ e]; exact Duo.keepM (h.a j hj) t (by omega)
/-- A call of the reference's memory i. -/
theorem Duo.stepR {W W' : World} {B p : Nat} {c mb rb : Nat → Nat} {s q : Nat → MS} (h : Duo W B p c mb rb s q) (i : Nat) (hi : i < 2) {m' : MS} (k : RD W W' (fun k => c k = 3 + i) (rb i) m') :
    Duo W' B p (dye c W.heap.size (3 + i)) mb rb s (up q i m') ∧ Below B W W' := by
  have t := k.2
  refine ⟨⟨fun j hj => Duo.keepM (h.a j hj) t (by omega), fun j hj => ?_, (t.block p (lt_of h.pb) (by intro f; have := f.symm.trans h.pc; omega)).trans h.pb, (dye_lt _ _ _ _ (lt_of h.pb)).trans h.pc, h.bp, fun j hj => (dye_lt _ _ _ _ (by have := h.sz; omega)).trans (h.lo j hj)⟩, h.low (by omega) t⟩
  by_cases e : j = i
  · subst e; rw [up_at]; exact k.1.mono fun _ _ f => gr_dye f
  · rw [up_ne _ _ _ _ e]; exact Duo.keepR (h.b j hj) t (by omega)
theorem pcells_m (mb rb : Nat → Nat) (i b : Nat) (hi : i < 2) : (pcells mb rb).set i (ptr b) = pcells (up mb i b) rb := by
  match i, hi with
  | 0, _ => rfl
  | 1, _ => rfl
theorem pcells_r (mb rb : Nat → Nat) (i b : Nat) (hi : i < 2) : (pcells mb rb).set (2 + i) (ptr b) = pcells mb (up rb i b) := by
  match i, hi with
  | 0, _ => rfl
  | 1, _ => rfl
/-- A new memory of the program, N: the heap's size before it was made; W: the world in which it lies, ahead of its store into the pair. -/
theorem Duo.newM {W : World} {B p : Nat} {c mb rb : Nat → Nat} {s q : Nat → MS} (h : Duo W B p c mb rb s q) (i : Nat) (hi : i < 2) {N b : Nat} {m' : MS} (hN : p < N) (hc : ∀ k, N ≤ k → c k ≠ 1 + (1 - i) ∧ c k ≠ 3 ∧ c k ≠ 4) (k : HasM W (fun k => N ≤ k) b m') (hp : p < N) :
    Duo (W.setCell ⟨p, i, none⟩ (ptr b)) B p (dye (up c p 0) N (1 + i)) (up mb i b) rb (up s i m') q ∧ Below B W (W.setCell ⟨p, i, none⟩ (ptr b)) := by
  have o : ∀ j, j ≠ p → (W.setCell ⟨p, i, none⟩ (ptr b)).heap[j]? = W.heap[j]? := fun j hj => setCell_other _ _ _ _ _ hj
  have hcc : ∀ j e, e ≠ 0 → c j = e → j ≠ p := fun j e he hj f => he (hj.symm.trans (f ▸ h.pc))
  refine ⟨⟨fun j hj => ?_, fun j hj => ?_, ?_, ?_, h.bp, ?_⟩, ⟨rfl, rfl, rfl, by rw [setCell_size]; exact Nat.le_refl _, fun j hj => o j (by have := h.bp; omega)⟩⟩
  · by_cases e : j = i
    · subst e; rw [up_at, up_at]
      exact (k.kept fun j' _ f => o j' (by have : N ≤ j' := f; omega)).mono fun j' _ f => dye_ge _ _ _ _ f
    · rw [up_ne _ _ _ _ e, up_ne _ _ _ _ e]
      refine ((h.a j hj).kept fun j' _ f => o j' (hcc j' _ (by omega) f)).mono fun j' _ f => ?_
      have ej : j = 1 - i := by omega
      have h1 : ¬ N ≤ j' := fun g => (hc j' g).1 (by rw [← ej]; exact f)
      rw [dye_lt _ _ _ _ (by omega), up_ne _ _ _ _ (hcc j' _ (by omega) f)]; exact f
  · refine ((h.b j hj).kept fun j' _ f => o j' (hcc j' _ (by omega) f)).mono fun j' _ f => ?_
    have h1 : ¬ N ≤ j' := fun g => by have := hc j' g; have f' : c j' = 3 + j := f; omega
    rw [dye_lt _ _ _ _ (by omega), up_ne _ _ _ _ (hcc j' _ (by omega) f)]; exact f
  · rw [setCell_heap W p i _ 73 _ h.pb, pcells_m _ _ _ _ hi]
  · rw [dye_lt _ _ _ _ hp, up_at]
  · intro j hj
    have := h.bp
    rw [dye_lt _ _ _ _ (by omega), up_ne _ _ _ _ (by omega)]; exact h.lo j hj
/-- Blocks that are not there have no color. -/
theorem Duo.fresh {W : World} {B p : Nat} {c mb rb : Nat → Nat} {s q : Nat → MS} (h : Duo W B p c mb rb s q) : Duo W B p (dye c W.heap.size 0) mb rb s q :=
  ⟨fun i hi => (h.a i hi).mono fun j hj f => (dye_lt _ _ _ _ hj).trans f, fun i hi => (h.b i hi).mono fun j hj f => (dye_lt _ _ _ _ hj).trans f, h.pb, (dye_lt _ _ _ _ (lt_of h.pb)).trans h.pc, h.bp, fun j hj => (dye_lt _ _ _ _ (by have := h.sz; omega)).trans (h.lo j hj)⟩
theorem Duo.newR {W : World} {B p : Nat} {c mb rb : Nat → Nat} {s q : Nat → MS} (h : Duo W B p c mb rb s q) (i : Nat) (hi : i < 2) {N b : Nat} {m' : MS} (hc : ∀ k, N ≤ k → c k ≠ 3 + (1 - i) ∧ c k ≠ 1 ∧ c k ≠ 2) (k : IsR W (fun k => N ≤ k) b m') (hp : p < N) :
    Duo (W.setCell ⟨p, 2 + i, none⟩ (ptr b)) B p (dye (up c p 0) N (3 + i)) mb (up rb i b) s (up q i m') ∧ Below B W (W.setCell ⟨p, 2 + i, none⟩ (ptr b)) := by
  have o : ∀ j, j ≠ p → (W.setCell ⟨p, 2 + i, none⟩ (ptr b)).heap[j]? = W.heap[j]? := fun j hj => setCell_other _ _ _ _ _ hj
  have hcc : ∀ j e, e ≠ 0 → c j = e → j ≠ p := fun j e he hj f => he (hj.symm.trans (f ▸ h.pc))
  refine ⟨⟨fun j hj => ?_, fun j hj => ?_, ?_, ?_, h.bp, ?_⟩, ⟨rfl, rfl, rfl, by rw [setCell_size]; exact Nat.le_refl _, fun j hj => o j (by have := h.bp; omega)⟩⟩
  · refine ((h.a j hj).kept fun j' _ f => o j' (hcc j' _ (by omega) f)).mono fun j' _ f => ?_
    have h1 : ¬ N ≤ j' := fun g => by have := hc j' g; have f' : c j' = 1 + j := f; omega
    rw [dye_lt _ _ _ _ (by omega), up_ne _ _ _ _ (hcc j' _ (by omega) f)]; exact f
  · by_cases e : j = i
    · subst e; rw [up_at, up_at]
      exact (k.kept fun j' _ f => o j' (by have : N ≤ j' := f; omega)).mono fun j' _ f => dye_ge _ _ _ _ f
    · rw [up_ne _ _ _ _ e, up_ne _ _ _ _ e]
      refine ((h.b j hj).kept fun j' _ f => o j' (hcc j' _ (by omega) f)).mono fun j' _ f => ?_
      have ej : j = 1 - i := by omega
      have h1 : ¬ N ≤ j' := fun g => (hc j' g).1 (by rw [← ej]; exact f)
      rw [dye_lt _ _ _ _ (by omega), up_ne _ _ _ _ (hcc j' _ (by omega) f)]; exact f
  · rw [setCell_heap W p (2 + i) _ 73 _ h.pb, pcells_r _ _ _ _ hi]
  · rw [dye_lt _ _ _ _ hp, up_at]
  · intro j hj
    have := h.bp
    rw [dye_lt _ _ _ _ (by omega), up_ne _ _ _ _ (by omega)]; exact h.lo j hj
/-- A new memory of the program is laid into the pair; W: the world ahead of the call that made it. -/
theorem Duo.putM {W W1 : World} {B p : Nat} {c mb rb : Nat → Nat} {s q : Nat → MS} (h : Duo W B p c mb rb s q) (i : Nat) (hi : i < 2) {b : Nat} {m' : MS} (k : HasM W1 (fun k => W.heap.size ≤ k) b m') (hb : Below W.heap.size W W1) :
    ∃ c', Duo (W1.setCell ⟨p, i, none⟩ (ptr b)) B p c' (up mb i b) rb (up s i m') q ∧ Below B W (W1.setCell ⟨p, i, none⟩ (ptr b)) := by
  have h1 := (h.fresh.below hb).newM i hi (N := W.heap.size) (lt_of h.pb) (fun k hk => by rw [dye_ge _ _ _ _ hk]; omega) k (lt_of h.pb)
  exact ⟨_, h1.1, (hb.mono (by have := h.sz; omega)).trans h1.2⟩
theorem Duo.putR {W W1 : World} {B p : Nat} {c mb rb : Nat → Nat} {s q : Nat → MS} (h : Duo W B p c mb rb s q) (i : Nat) (hi : i < 2) {b : Nat} {m' : MS} (k : IsR W1 (fun k => W.heap.size ≤ k) b m') (hb : Below W.heap.size W W1) :
    ∃ c', Duo (W1.setCell ⟨p, 2 + i, none⟩ (ptr b)) B p c' mb (up rb i b) s (up q i m') ∧ Below B W (W1.setCell ⟨p, 2 + i, none⟩ (ptr b)) := by
  have h1 := (h.fresh.below hb).newR i hi (N := W.heap.size) (fun k hk => by rw [dye_ge _ _ _ _ hk]; omega) k (lt_of h.pb)
  exact ⟨_, h1.1, (hb.mono (by have := h.sz; omega)).trans h1.2⟩
end Go.Proofs.Ytcmaccefjlgbfaa
/-! A step of the pair: the pair and the step's box. -/
namespace Go.Proofs.Ytcmaccefjlgbfaa
open Go.RowKit
open Go.Proofs
set_option linter.unusedVariables false
set_option linter.unusedSimpArgs false
theorem dye_0 {c : Nat → Nat} {n d k : Nat} (h : k < n) (hc : c k = 0) : dye c n d k = 0 := (dye_lt _ _ _ _ h).trans hc
/-- The pair at p, the step's box at g; W0: the world at the step's start. -/
structure Pb (W0 W : World) (B p g : Nat) (bx : List Value) (mb rb : Nat → Nat) (s q : Nat → MS) : Prop where
  ex : ∃ c, Duo W B p c mb rb s q ∧ c g = 0
  bx : W.heap[g]? = some (.cells bx.toArray 76 (0, 0))
  lo : Below B W0 W
  pg : p < g
theorem Pb.start {W W1 : World} {B p : Nat} {c mb rb : Nat → Nat} {s q : Nat → MS} {bx : List Value} (h : Duo W B p c mb rb s q) (hb : Below W.heap.size W W1) (hz : W1.heap[W.heap.size]? = some (.cells bx.toArray 76 (0, 0))) : Pb W W1 B p W.heap.size bx mb rb s q :=
  ⟨⟨_, h.fresh.below hb, dye_ge _ _ _ _ (Nat.le_refl _)⟩, hz, hb.mono (Nat.le_of_lt h.sz), lt_of h.pb⟩
theorem Pb.below {W0 W W' : World} {B p g : Nat} {bx : List Value} {mb rb : Nat → Nat} {s q : Nat → MS} (h : Pb W0 W B p g bx mb rb s q) (k : Below W.heap.size W W') : Pb W0 W' B p g bx mb rb s q := by
  obtain ⟨c, d, e⟩ := h.ex
  exact ⟨⟨c, d.below k, e⟩, (k.block g (lt_of h.bx)).trans h.bx, h.lo.trans (k.mono (Nat.le_of_lt d.sz)), h.pg⟩
theorem Pb.drew {W0 W : World} {B p g : Nat} {bx : List Value} {mb rb : Nat → Nat} {s q : Nat → MS} (h : Pb W0 W B p g bx mb rb s q) : Pb W0 W.drew B p g bx mb rb s q := h.below ((Below.refl _ _).drew)
theorem Pb.drewN {W0 W : World} {B p g : Nat} {bx : List Value} {mb rb : Nat → Nat} {s q : Nat → MS} (h : Pb W0 W B p g bx mb rb s q) (n : Nat) : Pb W0 (W.drewN n) B p g bx mb rb s q := h.below ⟨rfl, rfl, rfl, Nat.le_refl _, fun _ _ => rfl⟩
theorem Pb.callM {W0 W : World} {B p g : Nat} {bx : List Value} {mb rb : Nat → Nat} {s q : Nat → MS} (h : Pb W0 W B p g bx mb rb s q) (i : Nat) (hi : i < 2) :
    ∃ F, HasM W F (mb i) (s i) ∧ ∀ W' m', Done W W' F (mb i) m' → Pb W0 W' B p g bx mb rb (up s i m') q := by
  obtain ⟨c, d, e⟩ := h.ex
  refine ⟨_, d.a i hi, fun W' m' k => ?_⟩
  have d' := d.stepM i hi k
  exact ⟨⟨_, d'.1, dye_0 (lt_of h.bx) e⟩, (k.2.block g (lt_of h.bx) (by intro f; have : c g = 1 + i := f; omega)).trans h.bx, h.lo.trans d'.2, h.pg⟩
theorem Pb.callR {W0 W : World} {B p g : Nat} {bx : List Value} {mb rb : Nat → Nat} {s q : Nat → MS} (h : Pb W0 W B p g bx mb rb s q) (i : Nat) (hi : i < 2) :
    ∃ F, IsR W F (rb i) (q i) ∧ ∀ W' m', RD W W' F (rb i) m' → Pb W0 W' B p g bx mb rb s (up q i m') := by
  obtain ⟨c, d, e⟩ := h.ex
  refine ⟨_, d.b i hi, fun W' m' k => ?_⟩
  have d' := d.stepR i hi k
  exact ⟨⟨_, d'.1, dye_0 (lt_of h.bx) e⟩, (k.2.block g (lt_of h.bx) (by intro f; have : c g = 3 + i := f; omega)).trans h.bx, h.lo.trans d'.2, h.pg⟩
theorem Pb.pcell {W0 W : World} {B p g : Nat} {bx : List Value} {mb rb : Nat → Nat} {s q : Nat → MS} (h : Pb W0 W B p g bx mb rb s q) (j : Nat) (v : Value) (hj : (pcells mb rb)[j]? = some v) : W.cell? ⟨p, j, none⟩ = some v := by
  obtain ⟨c, d, e⟩ := h.ex
  exact cell_of W p j _ 73 _ d.pb hj
theorem Pb.bcell {W0 W : World} {B p g : Nat} {bx : List Value} {mb rb : Nat → Nat} {s q : Nat → MS} (h : Pb W0 W B p g bx mb rb s q) (j : Nat) (v : Value) (hj : bx[j]? = some v) : W.cell? ⟨g, j, none⟩ = some v := cell_of W g j _ 76 _ h.bx hj
/-- What a step of the pair leaves. -/
def PlE (B p : Nat) (T : Nat) (w w' : World) : Prop := (∃ c mb rb s, Duo w' B p c mb rb s s ∧ ∀ j, j < 2 → (s j).tones.length ≤ T) ∧ Below B w w'
theorem Pb.done {W0 W : World} {B p g : Nat} {bx : List Value} {mb rb : Nat → Nat} {s : Nat → MS} {T : Nat} (h : Pb W0 W B p g bx mb rb s s) (ht : ∀ j, j < 2 → (s j).tones.length ≤ T) : PlE B p T W0 W := by
  obtain ⟨c, d, e⟩ := h.ex
  exact ⟨⟨c, mb, rb, s, d, ht⟩, h.lo⟩
theorem up_le {s : Nat → MS} {T : Nat} (ht : ∀ j, j < 2 → (s j).tones.length ≤ T) (i : Nat) (m' : MS) (hm : m'.tones.length ≤ T + 3) : ∀ j, j < 2 → (up s i m' j).tones.length ≤ T + 3 := by
  intro j hj
  by_cases e : j = i
  · subst e; rw [up_at]; exact hm
  · rw [up_ne _ _ _ _ e]; exact Nat.le_trans (ht j hj) (by omega)
/-- The cells of a step's box. -/
def opC (k wh at' X Y C N : Int) : List Value := [.int .i64 k, .int .i64 wh, .int .u16 at', .int .u16 X, .int .u16 Y, .int .u16 C, .int .i64 N]
end Go.Proofs.Ytcmaccefjlgbfaa
