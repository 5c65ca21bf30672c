import Derived.Test.YtoemoiehjdmheaaGreatPRow
import Derived.Test.YtoemoiehjdmheaaGreatSSame
import Derived.Test.YtoemoiehjdmheaaGreatMOps
import Derived.Test.YtoemoiehjdmheaaGreatCLeaf
namespace Go.Proofs.YtoemoiehjdmheaaGreat.P
open Go.RowKit
open Go.Proofs
set_option linter.unusedVariables false
set_option linter.unusedSimpArgs false
set_option maxHeartbeats 1000000
set_option maxRecDepth 100000
theorem at_alloc {b : Nat} {W W' : World} (o : Obj) (h : S.At b (W.alloc o) W') : S.At b W W' :=
  ⟨h.os, h.tape, h.output, Nat.le_trans (by simp) h.size, fun k hk hn => (h.block k (by simp; omega) hn).trans (Below.heap_alloc W o k hk)⟩
theorem bel_alloc (W : World) (o : Obj) : Below W.heap.size W (W.alloc o) := (Below.refl _ W).alloc (Nat.le_refl _) _
theorem put_any (op x y z s : Int) (bd br bm : Nat) (D xs : List Int) (p : Option Addr) (c : Nat) (W : World) (h : S.HasD W bd D) (hx : S.Sl S.eU 1 W p xs) (hl : D.length + xs.length <= 256) :
    Calls Tryz.prog 100 #[.agg #[.int .i64 op, .int .u16 x, .int .u16 y, .int .u16 z, .int .u16 s, .pointer (some ⟨bd, 0, none⟩), .pointer (some ⟨br, 0, none⟩), .pointer (some ⟨bm, 0, none⟩)], .slice p xs.length c] W fun e W' => e = .returned (.tuple #[]) /\ S.HasD W' bd (D ++ xs) /\ S.At bd W W' := by
  have hb := bel_alloc W (.cells #[.int .i64 op, .int .u16 x, .int .u16 y, .int .u16 z, .int .u16 s, .pointer (some ⟨bd, 0, none⟩), .pointer (some ⟨br, 0, none⟩), .pointer (some ⟨bm, 0, none⟩)] 208)
  have hp := S.dpush_yes bd D xs p c _ (h.below hb) (hx.below hb) hl
  clear hb
  go_enter Tryz.func100, Tryz.ntmps100
  go_wp2_with fail
  refine hp.mono ?_
  rintro e w1 ⟨rfl, h1, h2⟩
  go_wp2
  go_end0
  exact ⟨rfl, h1, at_alloc _ h2⟩
theorem save_any (op x y z s : Int) (bd br bm : Nat) (R xs : List (Int × Int)) (p : Option Addr) (c : Nat) (W : World) (h : S.HasR W br R) (hx : S.Sl S.eK 2 W p xs) (hl : R.length + xs.length <= 128) :
    Calls Tryz.prog 97 #[.agg #[.int .i64 op, .int .u16 x, .int .u16 y, .int .u16 z, .int .u16 s, .pointer (some ⟨bd, 0, none⟩), .pointer (some ⟨br, 0, none⟩), .pointer (some ⟨bm, 0, none⟩)], .slice p xs.length c] W fun e W' => e = .returned (.tuple #[]) /\ S.HasR W' br (R ++ xs) /\ S.At br W W' := by
  have hb := bel_alloc W (.cells #[.int .i64 op, .int .u16 x, .int .u16 y, .int .u16 z, .int .u16 s, .pointer (some ⟨bd, 0, none⟩), .pointer (some ⟨br, 0, none⟩), .pointer (some ⟨bm, 0, none⟩)] 208)
  have hp := S.rpush_yes br R xs p c _ (h.below hb) (hx.below hb) hl
  clear hb
  go_enter Tryz.func97, Tryz.ntmps97
  go_wp2_with fail
  refine hp.mono ?_
  rintro e w1 ⟨rfl, h1, h2⟩
  go_wp2
  go_end0
  exact ⟨rfl, h1, at_alloc _ h2⟩
theorem sl_block {α : Type} {e : α -> List Value} {s : Nat} (hs : ∀ a, (e a).length = s) (W : World) (b : Nat) (t : TypeId) (l : List α) (h : W.heap[b]? = some (.cells (S.en e l).toArray t (0, 0))) : S.Sl e s W (some ⟨b, 0, none⟩) l := by
  intro i a hi
  refine ⟨b, 0, rfl, fun j u hj => S.cell_of W b _ _ t _ h ?_⟩
  have hj' : j < s := by rw [<- hs a]; exact (List.getElem?_eq_some_iff.1 hj).1
  rw [Nat.zero_add, S.en_get hs l i j a hi hj']; exact hj
structure PS (W : World) (bd br bm : Nat) (F : Nat -> Prop) (D : List Int) (R : List (Int × Int)) (m : M.MS) : Prop where
  d : S.HasD W bd D
  r : S.HasR W br R
  m : M.HasM W F bm m
  dr : bd ≠ br
  fd : ¬ F bd
  fr : ¬ F br
def TP (bd br : Nat) (F : Nat -> Prop) (k : Nat) : Prop := k = bd \/ k = br \/ F k
structure PD (W W' : World) (bd br bm : Nat) (F : Nat -> Prop) (D : List Int) (R : List (Int × Int)) (m : M.MS) : Prop where
  s : PS W' bd br bm (M.gr F W W') D R m
  t : S.Tc (TP bd br F) W W'
section
variable {W W1 W' : World} {bd br bm : Nat} {F : Nat -> Prop} {D D' : List Int} {R R' : List (Int × Int)} {m m' : M.MS}
theorem PS.below (h : PS W bd br bm F D R m) (k : Below W.heap.size W W') : PS W' bd br bm F D R m :=
  ⟨h.d.below k, h.r.below k, h.m.kept fun i hi _ => k.block i hi, h.dr, h.fd, h.fr⟩
theorem PS.mono {G : Nat -> Prop} (h : PS W bd br bm F D R m) (k : ∀ i, i < W.heap.size -> (F i -> G i) /\ (i = bd \/ i = br -> ¬ G i)) : PS W bd br bm G D R m :=
  ⟨h.d, h.r, h.m.mono fun i hi => (k i hi).1, h.dr, (k _ (S.lt_of h.d.1)).2 (.inl rfl), (k _ (S.lt_of h.r.1)).2 (.inr rfl)⟩
theorem PS.gr (h : PS W bd br bm F D R m) (w w' : World) (h1 : bd < w.heap.size) (h2 : br < w.heap.size) : PS W bd br bm (M.gr F w w') D R m :=
  h.mono fun i _ => ⟨.inl, fun e => by
    rintro (g | ⟨g, _⟩)
    · rcases e with rfl | rfl
      · exact h.fd g
      · exact h.fr g
    · rcases e with rfl | rfl <;> omega⟩
theorem PS.same (h : PS W bd br bm F D R m) (k : Below W.heap.size W W') : PD W W' bd br bm F D R m :=
  ⟨(h.below k).gr W W' (S.lt_of h.d.1) (S.lt_of h.r.1), ⟨k.os, k.tape, k.output, k.size, fun i hi _ => k.block i hi⟩⟩
theorem PS.put (h : PS W bd br bm F D R m) (h1 : S.HasD W' bd D') (t : S.At bd W W') : PD W W' bd br bm F D' R m :=
  ⟨PS.gr ⟨h1, h.r.kept (t.block _ (S.lt_of h.r.1) (Ne.symm h.dr)), h.m.kept (fun i hi f => t.block i hi (by rintro rfl; exact h.fd f)), h.dr, h.fd, h.fr⟩ W W' (S.lt_of h.d.1) (S.lt_of h.r.1),
    ⟨t.os, t.tape, t.output, t.size, fun i hi n => t.block i hi fun e => n (.inl e)⟩⟩
theorem PS.save (h : PS W bd br bm F D R m) (h1 : S.HasR W' br R') (t : S.At br W W') : PD W W' bd br bm F D R' m :=
  ⟨PS.gr ⟨h.d.kept (t.block _ (S.lt_of h.d.1) h.dr), h1, h.m.kept (fun i hi f => t.block i hi (by rintro rfl; exact h.fr f)), h.dr, h.fd, h.fr⟩ W W' (S.lt_of h.d.1) (S.lt_of h.r.1),
    ⟨t.os, t.tape, t.output, t.size, fun i hi n => t.block i hi fun e => n (.inr (.inl e))⟩⟩
theorem PS.mem (h : PS W bd br bm F D R m) (k : M.Done W W' F bm m') : PD W W' bd br bm F D R m' :=
  ⟨⟨h.d.kept (k.2.block _ (S.lt_of h.d.1) h.fd), h.r.kept (k.2.block _ (S.lt_of h.r.1) h.fr), k.1, h.dr,
      fun g => by rcases g with g | ⟨g, _⟩; exact h.fd g; have := S.lt_of h.d.1; omega, fun g => by rcases g with g | ⟨g, _⟩; exact h.fr g; have := S.lt_of h.r.1; omega⟩,
    ⟨k.2.os, k.2.tape, k.2.output, k.2.size, fun i hi n => k.2.block i hi fun e => n (.inr (.inr e))⟩⟩
theorem PD.trans (a : PD W W1 bd br bm F D R m) (b : PD W1 W' bd br bm (M.gr F W W1) D' R' m') : PD W W' bd br bm F D' R' m' :=
  ⟨⟨b.s.d, b.s.r, b.s.m.mono fun i hi g => by
      rcases g with (g | ⟨g, _⟩) | ⟨g, g2⟩
      · exact .inl g
      · exact .inr ⟨g, hi⟩
      · exact .inr ⟨Nat.le_trans a.t.size g, g2⟩,
    b.s.dr, fun g => b.s.fd (by rcases g with g | ⟨g, g2⟩; exact .inl (.inl g); exact (b.s.fd (.inr ⟨by by_cases c : bd < W1.heap.size; exact absurd (.inl (.inr ⟨g, c⟩)) b.s.fd; omega, g2⟩)).elim),
    fun g => b.s.fr (by rcases g with g | ⟨g, g2⟩; exact .inl (.inl g); exact (b.s.fr (.inr ⟨by by_cases c : br < W1.heap.size; exact absurd (.inl (.inr ⟨g, c⟩)) b.s.fr; omega, g2⟩)).elim)⟩,
   a.t.trans b.t (fun i e => e) (fun i hi e => by
      rcases e with e | e | e | ⟨e, _⟩
      · exact .inl e
      · exact .inr (.inl e)
      · exact .inr (.inr e)
      · omega)⟩
theorem PD.ahead (h1 : bd < W.heap.size) (h2 : br < W.heap.size) (k : Below W.heap.size W W1) (b : PD W1 W' bd br bm F D R m) : PD W W' bd br bm F D R m :=
  ⟨b.s.mono fun i hi => ⟨fun g => by
      rcases g with g | ⟨g, g2⟩
      · exact .inl g
      · exact .inr ⟨Nat.le_trans k.size g, g2⟩, fun e => by
      rintro (g | ⟨g, _⟩)
      · rcases e with rfl | rfl
        · exact b.s.fd (.inl g)
        · exact b.s.fr (.inl g)
      · rcases e with rfl | rfl <;> omega⟩, ⟨b.t.os.trans k.os, b.t.tape.trans k.tape, b.t.output.trans k.output, Nat.le_trans k.size b.t.size, fun i hi n => (b.t.block i (Nat.lt_of_lt_of_le hi k.size) n).trans (k.block i hi)⟩⟩
theorem PD.wk {G : Nat -> Prop} (b : PD W W' bd br bm G D R m) (k : ∀ i, G i -> F i) (h1 : ¬ F bd) (h2 : ¬ F br) (l1 : bd < W.heap.size) (l2 : br < W.heap.size) : PD W W' bd br bm F D R m :=
  ⟨b.s.mono fun i hi => ⟨fun g => g.imp (k i) id, fun e => by
      rintro (g | ⟨g, _⟩)
      · rcases e with rfl | rfl
        · exact h1 g
        · exact h2 g
      · rcases e with rfl | rfl <;> omega⟩,
    ⟨b.t.os, b.t.tape, b.t.output, b.t.size, fun i hi n => b.t.block i hi fun e => n (by rcases e with e | e | e; exact .inl e; exact .inr (.inl e); exact .inr (.inr (k i e)))⟩⟩
theorem PS.cut (h : PS W bd br bm F D R m) : PS W bd br bm (fun k => F k /\ k < W.heap.size) D R m :=
  h.mono fun i hi => ⟨fun f => ⟨f, hi⟩, fun e g => by
    rcases e with rfl | rfl
    · exact h.fd g.1
    · exact h.fr g.1⟩
end
set_option maxHeartbeats 2000000
set_option maxRecDepth 100000
theorem do_fetch (op x y z s : Int) (bd br bm : Nat) (F : Nat -> Prop) (D : List Int) (R : List (Int × Int)) (m : M.MS) (W : World) (h : PS W bd br bm F D R m) (hx : C.C x) (hl : D.length + 1 <= 256) :
  Calls Tryz.prog 111 #[.agg #[.int .i64 op, .int .u16 x, .int .u16 y, .int .u16 z, .int .u16 s, .pointer (some ⟨bd, 0, none⟩), .pointer (some ⟨br, 0, none⟩), .pointer (some ⟨bm, 0, none⟩)]] W fun e W' => e = .returned (.tuple #[]) /\ PD W W' bd br bm F (D ++ [M.cl m x]) (R) (m) := by
 have hb := bel_alloc W (.cells #[.int .i64 op, .int .u16 x, .int .u16 y, .int .u16 z, .int .u16 s, .pointer (some ⟨bd, 0, none⟩), .pointer (some ⟨br, 0, none⟩), .pointer (some ⟨bm, 0, none⟩)] 208)
 have hk := h.below hb
 have hc := M.cell_any bm x hx.1 hx.2 (W.alloc (.cells #[.int .i64 op, .int .u16 x, .int .u16 y, .int .u16 z, .int .u16 s, .pointer (some ⟨bd, 0, none⟩), .pointer (some ⟨br, 0, none⟩), .pointer (some ⟨bm, 0, none⟩)] 208)).drew (hk.m.kept fun i hi _ => rfl)
 have hp : ∀ q, Calls Tryz.prog 100 #[.agg #[.int .i64 op, .int .u16 x, .int .u16 y, .int .u16 z, .int .u16 s, .pointer (some ⟨bd, 0, none⟩), .pointer (some ⟨br, 0, none⟩), .pointer (some ⟨bm, 0, none⟩)], .slice (some ⟨W.heap.size + 1, 0, none⟩) 1 1] (((W.alloc (.cells #[.int .i64 op, .int .u16 x, .int .u16 y, .int .u16 z, .int .u16 s, .pointer (some ⟨bd, 0, none⟩), .pointer (some ⟨br, 0, none⟩), .pointer (some ⟨bm, 0, none⟩)] 208)).drewN q).alloc (.cells #[.int .u16 (M.cl m x)] 57)) fun e W' => e = .returned (.tuple #[]) /\ S.HasD W' bd (D ++ [M.cl m x]) /\ S.At bd W W' := fun q => by
  have b2 : Below W.heap.size W (((W.alloc (.cells #[.int .i64 op, .int .u16 x, .int .u16 y, .int .u16 z, .int .u16 s, .pointer (some ⟨bd, 0, none⟩), .pointer (some ⟨br, 0, none⟩), .pointer (some ⟨bm, 0, none⟩)] 208)).drewN q).alloc (.cells #[.int .u16 (M.cl m x)] 57)) := (⟨hb.os, hb.tape, hb.output, hb.size, hb.block⟩ : Below W.heap.size W ((W.alloc (.cells #[.int .i64 op, .int .u16 x, .int .u16 y, .int .u16 z, .int .u16 s, .pointer (some ⟨bd, 0, none⟩), .pointer (some ⟨br, 0, none⟩), .pointer (some ⟨bm, 0, none⟩)] 208)).drewN q)).alloc hb.size _
  have hs : S.Sl S.eU 1 (((W.alloc (.cells #[.int .i64 op, .int .u16 x, .int .u16 y, .int .u16 z, .int .u16 s, .pointer (some ⟨bd, 0, none⟩), .pointer (some ⟨br, 0, none⟩), .pointer (some ⟨bm, 0, none⟩)] 208)).drewN q).alloc (.cells #[.int .u16 (M.cl m x)] 57)) (some ⟨W.heap.size + 1, 0, none⟩) [M.cl m x] := sl_block S.hU _ _ 57 _ (by
   have := heap_alloc_new ((W.alloc (.cells #[.int .i64 op, .int .u16 x, .int .u16 y, .int .u16 z, .int .u16 s, .pointer (some ⟨bd, 0, none⟩), .pointer (some ⟨br, 0, none⟩), .pointer (some ⟨bm, 0, none⟩)] 208)).drewN q) (.cells #[.int .u16 (M.cl m x)] 57)
   have e : ((W.alloc (.cells #[.int .i64 op, .int .u16 x, .int .u16 y, .int .u16 z, .int .u16 s, .pointer (some ⟨bd, 0, none⟩), .pointer (some ⟨br, 0, none⟩), .pointer (some ⟨bm, 0, none⟩)] 208)).drewN q).heap.size = W.heap.size + 1 := by show (W.alloc _).heap.size = _; simp
   rw [e] at this; exact this)
  have hp := put_any op x y z s bd br bm D [M.cl m x] (some ⟨W.heap.size + 1, 0, none⟩) 1 _ (h.d.below b2) hs hl
  simp only [List.length_cons, List.length_nil, Nat.reduceAdd] at hp
  exact hp.mono fun e W' ⟨a, b, c⟩ => ⟨a, b, c.os.trans b2.os, c.tape.trans b2.tape, c.output.trans b2.output, Nat.le_trans b2.size c.size, fun k hk hn => (c.block k (Nat.lt_of_lt_of_le hk b2.size) hn).trans (b2.block k hk)⟩
 have H : Hid _ := S.hid h
 clear h hk hb
 go_enter Tryz.func111, Tryz.ntmps111
 go_wp2_with fail
 go_region_with (first | (go_at_call 112; refine hc.mono ?_; rintro e w1 ⟨rfl, q, rfl⟩) | (go_at_call 100; refine (hp _).mono ?_; rintro e w2 ⟨rfl, h1, h2⟩))
 all_goals go_wp2
 all_goals go_end0
 all_goals exact ⟨rfl, H.out.put h1 h2⟩
set_option maxHeartbeats 2000000
set_option maxRecDepth 100000
theorem do_cfetch (op x y z s : Int) (bd br bm : Nat) (F : Nat -> Prop) (D : List Int) (R : List (Int × Int)) (m : M.MS) (W : World) (h : PS W bd br bm F D R m) (hx : C.C x) (hl : D.length + 1 <= 256) :
  Calls Tryz.prog 115 #[.agg #[.int .i64 op, .int .u16 x, .int .u16 y, .int .u16 z, .int .u16 s, .pointer (some ⟨bd, 0, none⟩), .pointer (some ⟨br, 0, none⟩), .pointer (some ⟨bm, 0, none⟩)]] W fun e W' => e = .returned (.tuple #[]) /\ PD W W' bd br bm F (D ++ [M.ld m x]) (R) (m) := by
 have hb := bel_alloc W (.cells #[.int .i64 op, .int .u16 x, .int .u16 y, .int .u16 z, .int .u16 s, .pointer (some ⟨bd, 0, none⟩), .pointer (some ⟨br, 0, none⟩), .pointer (some ⟨bm, 0, none⟩)] 208)
 have hk := h.below hb
 have hc := M.load_any bm x hx.1 hx.2 (W.alloc (.cells #[.int .i64 op, .int .u16 x, .int .u16 y, .int .u16 z, .int .u16 s, .pointer (some ⟨bd, 0, none⟩), .pointer (some ⟨br, 0, none⟩), .pointer (some ⟨bm, 0, none⟩)] 208)).drew (hk.m.kept fun i hi _ => rfl)
 have hp : ∀ q, Calls Tryz.prog 100 #[.agg #[.int .i64 op, .int .u16 x, .int .u16 y, .int .u16 z, .int .u16 s, .pointer (some ⟨bd, 0, none⟩), .pointer (some ⟨br, 0, none⟩), .pointer (some ⟨bm, 0, none⟩)], .slice (some ⟨W.heap.size + 1, 0, none⟩) 1 1] (((W.alloc (.cells #[.int .i64 op, .int .u16 x, .int .u16 y, .int .u16 z, .int .u16 s, .pointer (some ⟨bd, 0, none⟩), .pointer (some ⟨br, 0, none⟩), .pointer (some ⟨bm, 0, none⟩)] 208)).drewN q).alloc (.cells #[.int .u16 (M.ld m x)] 57)) fun e W' => e = .returned (.tuple #[]) /\ S.HasD W' bd (D ++ [M.ld m x]) /\ S.At bd W W' := fun q => by
  have b2 : Below W.heap.size W (((W.alloc (.cells #[.int .i64 op, .int .u16 x, .int .u16 y, .int .u16 z, .int .u16 s, .pointer (some ⟨bd, 0, none⟩), .pointer (some ⟨br, 0, none⟩), .pointer (some ⟨bm, 0, none⟩)] 208)).drewN q).alloc (.cells #[.int .u16 (M.ld m x)] 57)) := (⟨hb.os, hb.tape, hb.output, hb.size, hb.block⟩ : Below W.heap.size W ((W.alloc (.cells #[.int .i64 op, .int .u16 x, .int .u16 y, .int .u16 z, .int .u16 s, .pointer (some ⟨bd, 0, none⟩), .pointer (some ⟨br, 0, none⟩), .pointer (some ⟨bm, 0, none⟩)] 208)).drewN q)).alloc hb.size _
  have hs : S.Sl S.eU 1 (((W.alloc (.cells #[.int .i64 op, .int .u16 x, .int .u16 y, .int .u16 z, .int .u16 s, .pointer (some ⟨bd, 0, none⟩), .pointer (some ⟨br, 0, none⟩), .pointer (some ⟨bm, 0, none⟩)] 208)).drewN q).alloc (.cells #[.int .u16 (M.ld m x)] 57)) (some ⟨W.heap.size + 1, 0, none⟩) [M.ld m x] := sl_block S.hU _ _ 57 _ (by
   have := heap_alloc_new ((W.alloc (.cells #[.int .i64 op, .int .u16 x, .int .u16 y, .int .u16 z, .int .u16 s, .pointer (some ⟨bd, 0, none⟩), .pointer (some ⟨br, 0, none⟩), .pointer (some ⟨bm, 0, none⟩)] 208)).drewN q) (.cells #[.int .u16 (M.ld m x)] 57)
   have e : ((W.alloc (.cells #[.int .i64 op, .int .u16 x, .int .u16 y, .int .u16 z, .int .u16 s, .pointer (some ⟨bd, 0, none⟩), .pointer (some ⟨br, 0, none⟩), .pointer (some ⟨bm, 0, none⟩)] 208)).drewN q).heap.size = W.heap.size + 1 := by show (W.alloc _).heap.size = _; simp
   rw [e] at this; exact this)
  have hp := put_any op x y z s bd br bm D [M.ld m x] (some ⟨W.heap.size + 1, 0, none⟩) 1 _ (h.d.below b2) hs hl
  simp only [List.length_cons, List.length_nil, Nat.reduceAdd] at hp
  exact hp.mono fun e W' ⟨a, b, c⟩ => ⟨a, b, c.os.trans b2.os, c.tape.trans b2.tape, c.output.trans b2.output, Nat.le_trans b2.size c.size, fun k hk hn => (c.block k (Nat.lt_of_lt_of_le hk b2.size) hn).trans (b2.block k hk)⟩
 have hv : IntKind.u16.wrap (M.ld m x) = M.ld m x := by
  have := M.ld_bound m hk.m.wf x
  simp [IntKind.wrap, IntKind.bits, IntKind.signed]; omega
 have H : Hid _ := S.hid h
 clear h hk hb
 go_enter Tryz.func115, Tryz.ntmps115
 go_wp2_with fail
 go_region_with (first | (go_at_call 116; refine hc.mono ?_; rintro e w1 ⟨rfl, q, rfl⟩) | (go_at_call 100; refine (hp _).mono ?_; rintro e w2 ⟨rfl, h1, h2⟩))
 all_goals go_wp2
 all_goals go_end0
 all_goals exact ⟨rfl, H.out.put h1 h2⟩
set_option maxHeartbeats 2000000
set_option maxRecDepth 100000
theorem do_plus (op x y z s : Int) (bd br bm : Nat) (F : Nat -> Prop) (D : List Int) (R : List (Int × Int)) (m : M.MS) (W : World) (h : PS W bd br bm F D R m) (hx : C.C x) (hy : C.C y) (ht : m.tones.length <= 999000) :
  Calls Tryz.prog 119 #[.agg #[.int .i64 op, .int .u16 x, .int .u16 y, .int .u16 z, .int .u16 s, .pointer (some ⟨bd, 0, none⟩), .pointer (some ⟨br, 0, none⟩), .pointer (some ⟨bm, 0, none⟩)]] W fun e W' => e = .returned (.tuple #[]) /\ PD W W' bd br bm F (D) (R) (M.sc m y ((M.cl m y + x) % 65536)) := by
 have h0 := h.cut
 have hb := bel_alloc W (.cells #[.int .i64 op, .int .u16 x, .int .u16 y, .int .u16 z, .int .u16 s, .pointer (some ⟨bd, 0, none⟩), .pointer (some ⟨br, 0, none⟩), .pointer (some ⟨bm, 0, none⟩)] 208)
 have hk := h0.below hb
 have hc := M.cell_any bm y hy.1 hy.2 (W.alloc (.cells #[.int .i64 op, .int .u16 x, .int .u16 y, .int .u16 z, .int .u16 s, .pointer (some ⟨bd, 0, none⟩), .pointer (some ⟨br, 0, none⟩), .pointer (some ⟨bm, 0, none⟩)] 208)).drew (hk.m.kept fun i hi _ => rfl)
 have hv : IntKind.u16.wrap (M.cl m y + x) = (M.cl m y + x) % 65536 := by simp [IntKind.wrap, IntKind.bits, IntKind.signed]
 have hbx := heap_alloc_new W (.cells #[.int .i64 op, .int .u16 x, .int .u16 y, .int .u16 z, .int .u16 s, .pointer (some ⟨bd, 0, none⟩), .pointer (some ⟨br, 0, none⟩), .pointer (some ⟨bm, 0, none⟩)] 208)
 have sA : ∀ W2 : World, W2.heap[W.heap.size]? = some (.cells #[.int .i64 op, .int .u16 x, .int .u16 y, .int .u16 z, .int .u16 s, .pointer (some ⟨bd, 0, none⟩), .pointer (some ⟨br, 0, none⟩), .pointer (some ⟨bm, 0, none⟩)] 208 (0, 0)) -> W2.cell? ⟨W.heap.size, 1, none⟩ = some (.int .u16 x) /\ W2.cell? ⟨W.heap.size, 2, none⟩ = some (.int .u16 y) /\ W2.cell? ⟨W.heap.size, 7, none⟩ = some (.pointer (some ⟨bm, 0, none⟩)) := fun W2 e => ⟨S.cell_of W2 _ 1 _ 208 _ e rfl, S.cell_of W2 _ 2 _ 208 _ e rfl, S.cell_of W2 _ 7 _ 208 _ e rfl⟩
 have s0 := sA (W.alloc (.cells #[.int .i64 op, .int .u16 x, .int .u16 y, .int .u16 z, .int .u16 s, .pointer (some ⟨bd, 0, none⟩), .pointer (some ⟨br, 0, none⟩), .pointer (some ⟨bm, 0, none⟩)] 208)).drew hbx
 have s1 : ∀ q, _ := fun q => sA ((W.alloc (.cells #[.int .i64 op, .int .u16 x, .int .u16 y, .int .u16 z, .int .u16 s, .pointer (some ⟨bd, 0, none⟩), .pointer (some ⟨br, 0, none⟩), .pointer (some ⟨bm, 0, none⟩)] 208)).drewN q) hbx
 have hp : ∀ q, Calls Tryz.prog 114 #[.pointer (some ⟨bm, 0, none⟩), .int .u16 y, .int .u16 ((M.cl m y + x) % 65536)] ((W.alloc (.cells #[.int .i64 op, .int .u16 x, .int .u16 y, .int .u16 z, .int .u16 s, .pointer (some ⟨bd, 0, none⟩), .pointer (some ⟨br, 0, none⟩), .pointer (some ⟨bm, 0, none⟩)] 208)).drewN q) fun e W' => e = .returned (.tuple #[]) /\ PD W W' bd br bm F D R (M.sc m y ((M.cl m y + x) % 65536)) /\ W'.cell? ⟨W.heap.size, 1, none⟩ = some (.int .u16 x) /\ W'.cell? ⟨W.heap.size, 2, none⟩ = some (.int .u16 y) /\ W'.cell? ⟨W.heap.size, 7, none⟩ = some (.pointer (some ⟨bm, 0, none⟩)) := fun q => by
  have b2 : Below W.heap.size W ((W.alloc (.cells #[.int .i64 op, .int .u16 x, .int .u16 y, .int .u16 z, .int .u16 s, .pointer (some ⟨bd, 0, none⟩), .pointer (some ⟨br, 0, none⟩), .pointer (some ⟨bm, 0, none⟩)] 208)).drewN q) := ⟨hb.os, hb.tape, hb.output, hb.size, hb.block⟩
  have hk2 := h0.below b2
  exact (M.setCell_any bm y hy.1 hy.2 ((M.cl m y + x) % 65536) (by omega) (by omega) _ hk2.m (by omega)).mono fun e W' ⟨a, b⟩ => ⟨a, PD.wk (PD.ahead (S.lt_of h.d.1) (S.lt_of h.r.1) b2 (hk2.mem b)) (fun i g => g.1) h.fd h.fr (S.lt_of h.d.1) (S.lt_of h.r.1),
   sA W' ((b.2.block W.heap.size (by show W.heap.size < (W.alloc _).heap.size; simp) (fun g => by have := g.2; omega)).trans hbx)⟩
 clear h hk hb h0 sA hbx
 go_enter Tryz.func119, Tryz.ntmps119
 go_wp2_with fail
 go_region_held (fun w' => w'.cell? ⟨W.heap.size, 1, none⟩ = some (.int .u16 x) /\ w'.cell? ⟨W.heap.size, 2, none⟩ = some (.int .u16 y) /\ w'.cell? ⟨W.heap.size, 7, none⟩ = some (.pointer (some ⟨bm, 0, none⟩)))
  (first | (with_reducible exact s0) | (with_reducible exact s1 _) | (with_reducible exact s2))
  (first | (go_at_call 112; refine hc.mono ?_; rintro e w1 ⟨rfl, q, rfl⟩) | (go_at_call 114; refine (hp _).mono ?_; rintro e w2 ⟨rfl, h1, s2⟩))
 all_goals go_wp2
 all_goals go_end0
 all_goals exact ⟨rfl, h1⟩
set_option maxHeartbeats 2000000
set_option maxRecDepth 100000
theorem b8_conv (v : Int) : IntKind.u8.wrap v = M.bt (M.b8 v) := by rw [M.bt_b8]; simp [IntKind.wrap, IntKind.bits, IntKind.signed]
theorem do_store (op x y z s : Int) (bd br bm : Nat) (F : Nat -> Prop) (D : List Int) (R : List (Int × Int)) (m : M.MS) (W : World) (h : PS W bd br bm F D R m) (hx : C.C x) (hy : C.C y)(ht : m.tones.length <= 999000) :
  Calls Tryz.prog 113 #[.agg #[.int .i64 op, .int .u16 x, .int .u16 y, .int .u16 z, .int .u16 s, .pointer (some ⟨bd, 0, none⟩), .pointer (some ⟨br, 0, none⟩), .pointer (some ⟨bm, 0, none⟩)]] W fun e W' => e = .returned (.tuple #[]) /\ PD W W' bd br bm F (D) (R) (M.sc m y x) := by
 have hb := bel_alloc W (.cells #[.int .i64 op, .int .u16 x, .int .u16 y, .int .u16 z, .int .u16 s, .pointer (some ⟨bd, 0, none⟩), .pointer (some ⟨br, 0, none⟩), .pointer (some ⟨bm, 0, none⟩)] 208)
 have hk := h.below hb
 have hp := M.setCell_any bm y hy.1 hy.2 x hx.1 hx.2 _ hk.m (by omega)
 go_enter Tryz.func113, Tryz.ntmps113
 go_wp2_with fail
 refine hp.mono ?_
 rintro e w1 ⟨rfl, h1⟩
 go_wp2
 go_end0
 exact ⟨rfl, PD.ahead (S.lt_of h.d.1) (S.lt_of h.r.1) hb (hk.mem h1)⟩
theorem do_cstore (op x y z s : Int) (bd br bm : Nat) (F : Nat -> Prop) (D : List Int) (R : List (Int × Int)) (m : M.MS) (W : World) (h : PS W bd br bm F D R m) (hx : C.C x) (hy : C.C y)(ht : m.tones.length <= 999000) :
  Calls Tryz.prog 117 #[.agg #[.int .i64 op, .int .u16 x, .int .u16 y, .int .u16 z, .int .u16 s, .pointer (some ⟨bd, 0, none⟩), .pointer (some ⟨br, 0, none⟩), .pointer (some ⟨bm, 0, none⟩)]] W fun e W' => e = .returned (.tuple #[]) /\ PD W W' bd br bm F (D) (R) (M.st m y (M.b8 x)) := by
 have hb := bel_alloc W (.cells #[.int .i64 op, .int .u16 x, .int .u16 y, .int .u16 z, .int .u16 s, .pointer (some ⟨bd, 0, none⟩), .pointer (some ⟨br, 0, none⟩), .pointer (some ⟨bm, 0, none⟩)] 208)
 have hk := h.below hb
 have hv := b8_conv x
 have hp := M.store_any bm y hy.1 hy.2 (M.b8 x) _ hk.m (by omega)
 go_enter Tryz.func117, Tryz.ntmps117
 go_wp2_with fail
 refine hp.mono ?_
 rintro e w1 ⟨rfl, h1⟩
 go_wp2
 go_end0
 exact ⟨rfl, PD.ahead (S.lt_of h.d.1) (S.lt_of h.r.1) hb (hk.mem h1)⟩
theorem do_plot (op x y z s : Int) (bd br bm : Nat) (F : Nat -> Prop) (D : List Int) (R : List (Int × Int)) (m : M.MS) (W : World) (h : PS W bd br bm F D R m) (hx : C.C x) (hy : C.C y)(ht : m.tones.length <= 999000) :
  Calls Tryz.prog 123 #[.agg #[.int .i64 op, .int .u16 x, .int .u16 y, .int .u16 z, .int .u16 s, .pointer (some ⟨bd, 0, none⟩), .pointer (some ⟨br, 0, none⟩), .pointer (some ⟨bm, 0, none⟩)]] W fun e W' => e = .returned (.tuple #[]) /\ PD W W' bd br bm F (D) (R) (M.plt m x y z) := by
 have hb := bel_alloc W (.cells #[.int .i64 op, .int .u16 x, .int .u16 y, .int .u16 z, .int .u16 s, .pointer (some ⟨bd, 0, none⟩), .pointer (some ⟨br, 0, none⟩), .pointer (some ⟨bm, 0, none⟩)] 208)
 have hk := h.below hb
 have hp := M.plot_any bm x y z hx.1 hx.2 hy.1 hy.2 _ hk.m (by omega)
 go_enter Tryz.func123, Tryz.ntmps123
 go_wp2_with fail
 refine hp.mono ?_
 rintro e w1 ⟨rfl, h1⟩
 go_wp2
 go_end0
 exact ⟨rfl, PD.ahead (S.lt_of h.d.1) (S.lt_of h.r.1) hb (hk.mem h1)⟩
theorem do_tone (op x y z s : Int) (bd br bm : Nat) (F : Nat -> Prop) (D : List Int) (R : List (Int × Int)) (m : M.MS) (W : World) (h : PS W bd br bm F D R m) (hx : C.C x) (hy : C.C y)(ht : m.tones.length <= 999000) :
  Calls Tryz.prog 127 #[.agg #[.int .i64 op, .int .u16 x, .int .u16 y, .int .u16 z, .int .u16 s, .pointer (some ⟨bd, 0, none⟩), .pointer (some ⟨br, 0, none⟩), .pointer (some ⟨bm, 0, none⟩)]] W fun e W' => e = .returned (.tuple #[]) /\ PD W W' bd br bm F (D) (R) (M.st (M.sc m 65284 x) 65286 (M.b8 y)) := by
 have hb := bel_alloc W (.cells #[.int .i64 op, .int .u16 x, .int .u16 y, .int .u16 z, .int .u16 s, .pointer (some ⟨bd, 0, none⟩), .pointer (some ⟨br, 0, none⟩), .pointer (some ⟨bm, 0, none⟩)] 208)
 have hk := h.below hb
 have hv := b8_conv y
 have hp := M.play_any bm x hx.1 hx.2 (M.b8 y) _ hk.m (by omega)
 go_enter Tryz.func127, Tryz.ntmps127
 go_wp2_with fail
 refine hp.mono ?_
 rintro e w1 ⟨rfl, h1⟩
 go_wp2
 go_end0
 exact ⟨rfl, PD.ahead (S.lt_of h.d.1) (S.lt_of h.r.1) hb (hk.mem h1)⟩
theorem do_bank (op x y z s : Int) (bd br bm : Nat) (F : Nat -> Prop) (D : List Int) (R : List (Int × Int)) (m : M.MS) (W : World) (h : PS W bd br bm F D R m) (hx : C.C x) (hy : C.C y)(ht : m.tones.length <= 999000) :
  Calls Tryz.prog 129 #[.agg #[.int .i64 op, .int .u16 x, .int .u16 y, .int .u16 z, .int .u16 s, .pointer (some ⟨bd, 0, none⟩), .pointer (some ⟨br, 0, none⟩), .pointer (some ⟨bm, 0, none⟩)]] W fun e W' => e = .returned (.tuple #[]) /\ PD W W' bd br bm F (D) (R) (M.st m 65280 (M.b8 x)) := by
 have hb := bel_alloc W (.cells #[.int .i64 op, .int .u16 x, .int .u16 y, .int .u16 z, .int .u16 s, .pointer (some ⟨bd, 0, none⟩), .pointer (some ⟨br, 0, none⟩), .pointer (some ⟨bm, 0, none⟩)] 208)
 have hk := h.below hb
 have hp := M.choose_any bm x _ hk.m (by omega)
 go_enter Tryz.func129, Tryz.ntmps129
 go_wp2_with fail
 refine hp.mono ?_
 rintro e w1 ⟨rfl, h1⟩
 go_wp2
 go_end0
 exact ⟨rfl, PD.ahead (S.lt_of h.d.1) (S.lt_of h.r.1) hb (hk.mem h1)⟩
set_option maxHeartbeats 2000000
set_option maxRecDepth 100000
theorem do_pad (op x y z s : Int) (bd br bm : Nat) (F : Nat -> Prop) (D : List Int) (R : List (Int × Int)) (m : M.MS) (W : World) (h : PS W bd br bm F D R m)  (hl : D.length + 1 <= 256) :
  Calls Tryz.prog 125 #[.agg #[.int .i64 op, .int .u16 x, .int .u16 y, .int .u16 z, .int .u16 s, .pointer (some ⟨bd, 0, none⟩), .pointer (some ⟨br, 0, none⟩), .pointer (some ⟨bm, 0, none⟩)]] W fun e W' => e = .returned (.tuple #[]) /\ PD W W' bd br bm F (D ++ [m.pad]) (R) (m) := by
 have hb := bel_alloc W (.cells #[.int .i64 op, .int .u16 x, .int .u16 y, .int .u16 z, .int .u16 s, .pointer (some ⟨bd, 0, none⟩), .pointer (some ⟨br, 0, none⟩), .pointer (some ⟨bm, 0, none⟩)] 208)
 have hk := h.below hb
 have hc := M.pad_any bm (W.alloc (.cells #[.int .i64 op, .int .u16 x, .int .u16 y, .int .u16 z, .int .u16 s, .pointer (some ⟨bd, 0, none⟩), .pointer (some ⟨br, 0, none⟩), .pointer (some ⟨bm, 0, none⟩)] 208)).drew (hk.m.kept fun i hi _ => rfl)
 have hp : ∀ q, Calls Tryz.prog 100 #[.agg #[.int .i64 op, .int .u16 x, .int .u16 y, .int .u16 z, .int .u16 s, .pointer (some ⟨bd, 0, none⟩), .pointer (some ⟨br, 0, none⟩), .pointer (some ⟨bm, 0, none⟩)], .slice (some ⟨W.heap.size + 1, 0, none⟩) 1 1] (((W.alloc (.cells #[.int .i64 op, .int .u16 x, .int .u16 y, .int .u16 z, .int .u16 s, .pointer (some ⟨bd, 0, none⟩), .pointer (some ⟨br, 0, none⟩), .pointer (some ⟨bm, 0, none⟩)] 208)).drewN q).alloc (.cells #[.int .u16 (m.pad)] 57)) fun e W' => e = .returned (.tuple #[]) /\ S.HasD W' bd (D ++ [m.pad]) /\ S.At bd W W' := fun q => by
  have b2 : Below W.heap.size W (((W.alloc (.cells #[.int .i64 op, .int .u16 x, .int .u16 y, .int .u16 z, .int .u16 s, .pointer (some ⟨bd, 0, none⟩), .pointer (some ⟨br, 0, none⟩), .pointer (some ⟨bm, 0, none⟩)] 208)).drewN q).alloc (.cells #[.int .u16 (m.pad)] 57)) := (⟨hb.os, hb.tape, hb.output, hb.size, hb.block⟩ : Below W.heap.size W ((W.alloc (.cells #[.int .i64 op, .int .u16 x, .int .u16 y, .int .u16 z, .int .u16 s, .pointer (some ⟨bd, 0, none⟩), .pointer (some ⟨br, 0, none⟩), .pointer (some ⟨bm, 0, none⟩)] 208)).drewN q)).alloc hb.size _
  have hs : S.Sl S.eU 1 (((W.alloc (.cells #[.int .i64 op, .int .u16 x, .int .u16 y, .int .u16 z, .int .u16 s, .pointer (some ⟨bd, 0, none⟩), .pointer (some ⟨br, 0, none⟩), .pointer (some ⟨bm, 0, none⟩)] 208)).drewN q).alloc (.cells #[.int .u16 (m.pad)] 57)) (some ⟨W.heap.size + 1, 0, none⟩) [m.pad] := sl_block S.hU _ _ 57 _ (by
   have := heap_alloc_new ((W.alloc (.cells #[.int .i64 op, .int .u16 x, .int .u16 y, .int .u16 z, .int .u16 s, .pointer (some ⟨bd, 0, none⟩), .pointer (some ⟨br, 0, none⟩), .pointer (some ⟨bm, 0, none⟩)] 208)).drewN q) (.cells #[.int .u16 (m.pad)] 57)
   have e : ((W.alloc (.cells #[.int .i64 op, .int .u16 x, .int .u16 y, .int .u16 z, .int .u16 s, .pointer (some ⟨bd, 0, none⟩), .pointer (some ⟨br, 0, none⟩), .pointer (some ⟨bm, 0, none⟩)] 208)).drewN q).heap.size = W.heap.size + 1 := by show (W.alloc _).heap.size = _; simp
   rw [e] at this; exact this)
  have hp := put_any op x y z s bd br bm D [m.pad] (some ⟨W.heap.size + 1, 0, none⟩) 1 _ (h.d.below b2) hs hl
  simp only [List.length_cons, List.length_nil, Nat.reduceAdd] at hp
  exact hp.mono fun e W' ⟨a, b, c⟩ => ⟨a, b, c.os.trans b2.os, c.tape.trans b2.tape, c.output.trans b2.output, Nat.le_trans b2.size c.size, fun k hk hn => (c.block k (Nat.lt_of_lt_of_le hk b2.size) hn).trans (b2.block k hk)⟩
 have hv : IntKind.u16.wrap m.pad = m.pad := by
  have := hk.m.wf.pad0; have := hk.m.wf.pad1
  simp [IntKind.wrap, IntKind.bits, IntKind.signed]; omega
 have H : Hid _ := S.hid h
 clear h hk hb
 go_enter Tryz.func125, Tryz.ntmps125
 go_wp2_with fail
 go_region_with (first | (go_at_call 126; refine hc.mono ?_; rintro e w1 ⟨rfl, q, rfl⟩) | (go_at_call 100; refine (hp _).mono ?_; rintro e w2 ⟨rfl, h1, h2⟩))
 all_goals go_wp2
 all_goals go_end0
 all_goals exact ⟨rfl, H.out.put h1 h2⟩
theorem do_fromR (op x y z s : Int) (bd br bm : Nat) (F : Nat -> Prop) (D : List Int) (R : List (Int × Int)) (m : M.MS) (W : World) (h : PS W bd br bm F D R m) (R0 : List (Int × Int)) (v : Int) (hR : R = R0 ++ [(4, v)]) (hl : D.length + 1 <= 256) :
  Calls Tryz.prog 121 #[.agg #[.int .i64 op, .int .u16 x, .int .u16 y, .int .u16 z, .int .u16 s, .pointer (some ⟨bd, 0, none⟩), .pointer (some ⟨br, 0, none⟩), .pointer (some ⟨bm, 0, none⟩)]] W fun e W' => e = .returned (.tuple #[]) /\ PD W W' bd br bm F (D ++ [s]) (R0) (m) := by
 subst hR
 have hb := bel_alloc W (.cells #[.int .i64 op, .int .u16 x, .int .u16 y, .int .u16 z, .int .u16 s, .pointer (some ⟨bd, 0, none⟩), .pointer (some ⟨br, 0, none⟩), .pointer (some ⟨bm, 0, none⟩)] 208)
 have hk := h.below hb
 have hc := S.rpop_ok br R0 4 v _ hk.r
 have hlt : W.heap.size ≠ br := by have := S.lt_of h.r.1; omega
 have hbx := heap_alloc_new W (.cells #[.int .i64 op, .int .u16 x, .int .u16 y, .int .u16 z, .int .u16 s, .pointer (some ⟨bd, 0, none⟩), .pointer (some ⟨br, 0, none⟩), .pointer (some ⟨bm, 0, none⟩)] 208)
 have hsz : (W.alloc (.cells #[.int .i64 op, .int .u16 x, .int .u16 y, .int .u16 z, .int .u16 s, .pointer (some ⟨bd, 0, none⟩), .pointer (some ⟨br, 0, none⟩), .pointer (some ⟨bm, 0, none⟩)] 208)).heap.size = W.heap.size + 1 := by simp
 have H := S.hid h
 have HK := S.hid hk
 have HB := S.hid hb
 have HX := S.hid hbx
 have HZ := S.hid hsz
 clear h hk hb hbx hsz
 go_enter Tryz.func121, Tryz.ntmps121
 go_wp2_with fail
 refine hc.mono ?_
 rintro e w1 ⟨rfl, h1, h2⟩
 have hPD := HK.out.save h1 h2
 have hbx : w1.heap[W.heap.size]? = _ := (h2.block _ (by rw [HZ.out]; omega) hlt).trans HX.out
 have c0 := S.cell_of w1 W.heap.size 0 _ 208 _ hbx rfl
 have c1 := S.cell_of w1 W.heap.size 1 _ 208 _ hbx rfl
 have c2 := S.cell_of w1 W.heap.size 2 _ 208 _ hbx rfl
 have c3 := S.cell_of w1 W.heap.size 3 _ 208 _ hbx rfl
 have c4 := S.cell_of w1 W.heap.size 4 _ 208 _ hbx rfl
 have c5 := S.cell_of w1 W.heap.size 5 _ 208 _ hbx rfl
 have c6 := S.cell_of w1 W.heap.size 6 _ 208 _ hbx rfl
 have c7 := S.cell_of w1 W.heap.size 7 _ 208 _ hbx rfl
 have b2 := bel_alloc w1 (.cells #[.int .u16 s] 57)
 have hs : S.Sl S.eU 1 (w1.alloc (.cells #[.int .u16 s] 57)) (some ⟨w1.heap.size, 0, none⟩) [s] := sl_block S.hU _ _ 57 _ (heap_alloc_new w1 _)
 have hp := put_any op x y z s bd br bm D [s] (some ⟨w1.heap.size, 0, none⟩) 1 _ (hPD.s.d.below b2) hs hl
 simp only [List.length_cons, List.length_nil, Nat.reduceAdd] at hp
 clear hbx
 go_wp2_with fail
 refine hp.mono ?_
 rintro e w2 ⟨rfl, h3, h4⟩
 go_wp2
 go_end0
 exact ⟨rfl, PD.ahead (S.lt_of H.out.d.1) (S.lt_of H.out.r.1) HB.out (hPD.trans (hPD.s.put h3 (at_alloc _ h4)))⟩
set_option maxHeartbeats 2000000
set_option maxRecDepth 100000
theorem do_nop (op x y z s : Int) (bd br bm : Nat) (F : Nat -> Prop) (D : List Int) (R : List (Int × Int)) (m : M.MS) (W : World) (h : PS W bd br bm F D R m)  :
  Calls Tryz.prog 98 #[.agg #[.int .i64 op, .int .u16 x, .int .u16 y, .int .u16 z, .int .u16 s, .pointer (some ⟨bd, 0, none⟩), .pointer (some ⟨br, 0, none⟩), .pointer (some ⟨bm, 0, none⟩)]] W fun e W' => e = .returned (.tuple #[]) /\ PD W W' bd br bm F (D) (R) (m) := by
 go_enter Tryz.func98, Tryz.ntmps98
 go_wp2
 go_end0
 exact ⟨rfl, h.same (bel_alloc W _)⟩
theorem do_drop (op x y z s : Int) (bd br bm : Nat) (F : Nat -> Prop) (D : List Int) (R : List (Int × Int)) (m : M.MS) (W : World) (h : PS W bd br bm F D R m)  :
  Calls Tryz.prog 101 #[.agg #[.int .i64 op, .int .u16 x, .int .u16 y, .int .u16 z, .int .u16 s, .pointer (some ⟨bd, 0, none⟩), .pointer (some ⟨br, 0, none⟩), .pointer (some ⟨bm, 0, none⟩)]] W fun e W' => e = .returned (.tuple #[]) /\ PD W W' bd br bm F (D) (R) (m) := by
 go_enter Tryz.func101, Tryz.ntmps101
 go_wp2
 go_end0
 exact ⟨rfl, h.same (bel_alloc W _)⟩
theorem do_drop2 (op x y z s : Int) (bd br bm : Nat) (F : Nat -> Prop) (D : List Int) (R : List (Int × Int)) (m : M.MS) (W : World) (h : PS W bd br bm F D R m)  :
  Calls Tryz.prog 108 #[.agg #[.int .i64 op, .int .u16 x, .int .u16 y, .int .u16 z, .int .u16 s, .pointer (some ⟨bd, 0, none⟩), .pointer (some ⟨br, 0, none⟩), .pointer (some ⟨bm, 0, none⟩)]] W fun e W' => e = .returned (.tuple #[]) /\ PD W W' bd br bm F (D) (R) (m) := by
 go_enter Tryz.func108, Tryz.ntmps108
 go_wp2
 go_end0
 exact ⟨rfl, h.same (bel_alloc W _)⟩
theorem do_dup (op x y z s : Int) (bd br bm : Nat) (F : Nat -> Prop) (D : List Int) (R : List (Int × Int)) (m : M.MS) (W : World) (h : PS W bd br bm F D R m) (hl : D.length + 2 <= 256) :
  Calls Tryz.prog 99 #[.agg #[.int .i64 op, .int .u16 x, .int .u16 y, .int .u16 z, .int .u16 s, .pointer (some ⟨bd, 0, none⟩), .pointer (some ⟨br, 0, none⟩), .pointer (some ⟨bm, 0, none⟩)]] W fun e W' => e = .returned (.tuple #[]) /\ PD W W' bd br bm F (D ++ [x, x]) (R) (m) := by
 have hb := (bel_alloc W (.cells #[.int .i64 op, .int .u16 x, .int .u16 y, .int .u16 z, .int .u16 s, .pointer (some ⟨bd, 0, none⟩), .pointer (some ⟨br, 0, none⟩), .pointer (some ⟨bm, 0, none⟩)] 208)).alloc (bel_alloc W (.cells #[.int .i64 op, .int .u16 x, .int .u16 y, .int .u16 z, .int .u16 s, .pointer (some ⟨bd, 0, none⟩), .pointer (some ⟨br, 0, none⟩), .pointer (some ⟨bm, 0, none⟩)] 208)).size (.cells #[.int .u16 x, .int .u16 x] 57)
 have hs : S.Sl S.eU 1 ((W.alloc (.cells #[.int .i64 op, .int .u16 x, .int .u16 y, .int .u16 z, .int .u16 s, .pointer (some ⟨bd, 0, none⟩), .pointer (some ⟨br, 0, none⟩), .pointer (some ⟨bm, 0, none⟩)] 208)).alloc (.cells #[.int .u16 x, .int .u16 x] 57)) (some ⟨W.heap.size + 1, 0, none⟩) [x, x] := sl_block S.hU _ _ 57 _ (heap_alloc2_new W _ _)
 have hp := put_any op x y z s bd br bm D [x, x] (some ⟨W.heap.size + 1, 0, none⟩) 2 _ (h.d.below hb) hs hl
 simp only [List.length_cons, List.length_nil, Nat.reduceAdd] at hp
 clear hb hs
 go_enter Tryz.func99, Tryz.ntmps99
 go_wp2_with fail
 refine hp.mono ?_
 rintro e w1 ⟨rfl, h1, h2⟩
 go_wp2
 go_end0
 exact ⟨rfl, h.put h1 (at_alloc _ (at_alloc _ h2))⟩
theorem do_swap (op x y z s : Int) (bd br bm : Nat) (F : Nat -> Prop) (D : List Int) (R : List (Int × Int)) (m : M.MS) (W : World) (h : PS W bd br bm F D R m) (hl : D.length + 2 <= 256) :
  Calls Tryz.prog 102 #[.agg #[.int .i64 op, .int .u16 x, .int .u16 y, .int .u16 z, .int .u16 s, .pointer (some ⟨bd, 0, none⟩), .pointer (some ⟨br, 0, none⟩), .pointer (some ⟨bm, 0, none⟩)]] W fun e W' => e = .returned (.tuple #[]) /\ PD W W' bd br bm F (D ++ [y, x]) (R) (m) := by
 have hb := (bel_alloc W (.cells #[.int .i64 op, .int .u16 x, .int .u16 y, .int .u16 z, .int .u16 s, .pointer (some ⟨bd, 0, none⟩), .pointer (some ⟨br, 0, none⟩), .pointer (some ⟨bm, 0, none⟩)] 208)).alloc (bel_alloc W (.cells #[.int .i64 op, .int .u16 x, .int .u16 y, .int .u16 z, .int .u16 s, .pointer (some ⟨bd, 0, none⟩), .pointer (some ⟨br, 0, none⟩), .pointer (some ⟨bm, 0, none⟩)] 208)).size (.cells #[.int .u16 y, .int .u16 x] 57)
 have hs : S.Sl S.eU 1 ((W.alloc (.cells #[.int .i64 op, .int .u16 x, .int .u16 y, .int .u16 z, .int .u16 s, .pointer (some ⟨bd, 0, none⟩), .pointer (some ⟨br, 0, none⟩), .pointer (some ⟨bm, 0, none⟩)] 208)).alloc (.cells #[.int .u16 y, .int .u16 x] 57)) (some ⟨W.heap.size + 1, 0, none⟩) [y, x] := sl_block S.hU _ _ 57 _ (heap_alloc2_new W _ _)
 have hp := put_any op x y z s bd br bm D [y, x] (some ⟨W.heap.size + 1, 0, none⟩) 2 _ (h.d.below hb) hs hl
 simp only [List.length_cons, List.length_nil, Nat.reduceAdd] at hp
 clear hb hs
 go_enter Tryz.func102, Tryz.ntmps102
 go_wp2_with fail
 refine hp.mono ?_
 rintro e w1 ⟨rfl, h1, h2⟩
 go_wp2
 go_end0
 exact ⟨rfl, h.put h1 (at_alloc _ (at_alloc _ h2))⟩
theorem do_over (op x y z s : Int) (bd br bm : Nat) (F : Nat -> Prop) (D : List Int) (R : List (Int × Int)) (m : M.MS) (W : World) (h : PS W bd br bm F D R m) (hl : D.length + 3 <= 256) :
  Calls Tryz.prog 103 #[.agg #[.int .i64 op, .int .u16 x, .int .u16 y, .int .u16 z, .int .u16 s, .pointer (some ⟨bd, 0, none⟩), .pointer (some ⟨br, 0, none⟩), .pointer (some ⟨bm, 0, none⟩)]] W fun e W' => e = .returned (.tuple #[]) /\ PD W W' bd br bm F (D ++ [x, y, x]) (R) (m) := by
 have hb := (bel_alloc W (.cells #[.int .i64 op, .int .u16 x, .int .u16 y, .int .u16 z, .int .u16 s, .pointer (some ⟨bd, 0, none⟩), .pointer (some ⟨br, 0, none⟩), .pointer (some ⟨bm, 0, none⟩)] 208)).alloc (bel_alloc W (.cells #[.int .i64 op, .int .u16 x, .int .u16 y, .int .u16 z, .int .u16 s, .pointer (some ⟨bd, 0, none⟩), .pointer (some ⟨br, 0, none⟩), .pointer (some ⟨bm, 0, none⟩)] 208)).size (.cells #[.int .u16 x, .int .u16 y, .int .u16 x] 57)
 have hs : S.Sl S.eU 1 ((W.alloc (.cells #[.int .i64 op, .int .u16 x, .int .u16 y, .int .u16 z, .int .u16 s, .pointer (some ⟨bd, 0, none⟩), .pointer (some ⟨br, 0, none⟩), .pointer (some ⟨bm, 0, none⟩)] 208)).alloc (.cells #[.int .u16 x, .int .u16 y, .int .u16 x] 57)) (some ⟨W.heap.size + 1, 0, none⟩) [x, y, x] := sl_block S.hU _ _ 57 _ (heap_alloc2_new W _ _)
 have hp := put_any op x y z s bd br bm D [x, y, x] (some ⟨W.heap.size + 1, 0, none⟩) 3 _ (h.d.below hb) hs hl
 simp only [List.length_cons, List.length_nil, Nat.reduceAdd] at hp
 clear hb hs
 go_enter Tryz.func103, Tryz.ntmps103
 go_wp2_with fail
 refine hp.mono ?_
 rintro e w1 ⟨rfl, h1, h2⟩
 go_wp2
 go_end0
 exact ⟨rfl, h.put h1 (at_alloc _ (at_alloc _ h2))⟩
theorem do_rot (op x y z s : Int) (bd br bm : Nat) (F : Nat -> Prop) (D : List Int) (R : List (Int × Int)) (m : M.MS) (W : World) (h : PS W bd br bm F D R m) (hl : D.length + 3 <= 256) :
  Calls Tryz.prog 104 #[.agg #[.int .i64 op, .int .u16 x, .int .u16 y, .int .u16 z, .int .u16 s, .pointer (some ⟨bd, 0, none⟩), .pointer (some ⟨br, 0, none⟩), .pointer (some ⟨bm, 0, none⟩)]] W fun e W' => e = .returned (.tuple #[]) /\ PD W W' bd br bm F (D ++ [y, z, x]) (R) (m) := by
 have hb := (bel_alloc W (.cells #[.int .i64 op, .int .u16 x, .int .u16 y, .int .u16 z, .int .u16 s, .pointer (some ⟨bd, 0, none⟩), .pointer (some ⟨br, 0, none⟩), .pointer (some ⟨bm, 0, none⟩)] 208)).alloc (bel_alloc W (.cells #[.int .i64 op, .int .u16 x, .int .u16 y, .int .u16 z, .int .u16 s, .pointer (some ⟨bd, 0, none⟩), .pointer (some ⟨br, 0, none⟩), .pointer (some ⟨bm, 0, none⟩)] 208)).size (.cells #[.int .u16 y, .int .u16 z, .int .u16 x] 57)
 have hs : S.Sl S.eU 1 ((W.alloc (.cells #[.int .i64 op, .int .u16 x, .int .u16 y, .int .u16 z, .int .u16 s, .pointer (some ⟨bd, 0, none⟩), .pointer (some ⟨br, 0, none⟩), .pointer (some ⟨bm, 0, none⟩)] 208)).alloc (.cells #[.int .u16 y, .int .u16 z, .int .u16 x] 57)) (some ⟨W.heap.size + 1, 0, none⟩) [y, z, x] := sl_block S.hU _ _ 57 _ (heap_alloc2_new W _ _)
 have hp := put_any op x y z s bd br bm D [y, z, x] (some ⟨W.heap.size + 1, 0, none⟩) 3 _ (h.d.below hb) hs hl
 simp only [List.length_cons, List.length_nil, Nat.reduceAdd] at hp
 clear hb hs
 go_enter Tryz.func104, Tryz.ntmps104
 go_wp2_with fail
 refine hp.mono ?_
 rintro e w1 ⟨rfl, h1, h2⟩
 go_wp2
 go_end0
 exact ⟨rfl, h.put h1 (at_alloc _ (at_alloc _ h2))⟩
theorem do_nip (op x y z s : Int) (bd br bm : Nat) (F : Nat -> Prop) (D : List Int) (R : List (Int × Int)) (m : M.MS) (W : World) (h : PS W bd br bm F D R m) (hl : D.length + 1 <= 256) :
  Calls Tryz.prog 105 #[.agg #[.int .i64 op, .int .u16 x, .int .u16 y, .int .u16 z, .int .u16 s, .pointer (some ⟨bd, 0, none⟩), .pointer (some ⟨br, 0, none⟩), .pointer (some ⟨bm, 0, none⟩)]] W fun e W' => e = .returned (.tuple #[]) /\ PD W W' bd br bm F (D ++ [y]) (R) (m) := by
 have hb := (bel_alloc W (.cells #[.int .i64 op, .int .u16 x, .int .u16 y, .int .u16 z, .int .u16 s, .pointer (some ⟨bd, 0, none⟩), .pointer (some ⟨br, 0, none⟩), .pointer (some ⟨bm, 0, none⟩)] 208)).alloc (bel_alloc W (.cells #[.int .i64 op, .int .u16 x, .int .u16 y, .int .u16 z, .int .u16 s, .pointer (some ⟨bd, 0, none⟩), .pointer (some ⟨br, 0, none⟩), .pointer (some ⟨bm, 0, none⟩)] 208)).size (.cells #[.int .u16 y] 57)
 have hs : S.Sl S.eU 1 ((W.alloc (.cells #[.int .i64 op, .int .u16 x, .int .u16 y, .int .u16 z, .int .u16 s, .pointer (some ⟨bd, 0, none⟩), .pointer (some ⟨br, 0, none⟩), .pointer (some ⟨bm, 0, none⟩)] 208)).alloc (.cells #[.int .u16 y] 57)) (some ⟨W.heap.size + 1, 0, none⟩) [y] := sl_block S.hU _ _ 57 _ (heap_alloc2_new W _ _)
 have hp := put_any op x y z s bd br bm D [y] (some ⟨W.heap.size + 1, 0, none⟩) 1 _ (h.d.below hb) hs hl
 simp only [List.length_cons, List.length_nil, Nat.reduceAdd] at hp
 clear hb hs
 go_enter Tryz.func105, Tryz.ntmps105
 go_wp2_with fail
 refine hp.mono ?_
 rintro e w1 ⟨rfl, h1, h2⟩
 go_wp2
 go_end0
 exact ⟨rfl, h.put h1 (at_alloc _ (at_alloc _ h2))⟩
theorem do_tuck (op x y z s : Int) (bd br bm : Nat) (F : Nat -> Prop) (D : List Int) (R : List (Int × Int)) (m : M.MS) (W : World) (h : PS W bd br bm F D R m) (hl : D.length + 3 <= 256) :
  Calls Tryz.prog 106 #[.agg #[.int .i64 op, .int .u16 x, .int .u16 y, .int .u16 z, .int .u16 s, .pointer (some ⟨bd, 0, none⟩), .pointer (some ⟨br, 0, none⟩), .pointer (some ⟨bm, 0, none⟩)]] W fun e W' => e = .returned (.tuple #[]) /\ PD W W' bd br bm F (D ++ [y, x, y]) (R) (m) := by
 have hb := (bel_alloc W (.cells #[.int .i64 op, .int .u16 x, .int .u16 y, .int .u16 z, .int .u16 s, .pointer (some ⟨bd, 0, none⟩), .pointer (some ⟨br, 0, none⟩), .pointer (some ⟨bm, 0, none⟩)] 208)).alloc (bel_alloc W (.cells #[.int .i64 op, .int .u16 x, .int .u16 y, .int .u16 z, .int .u16 s, .pointer (some ⟨bd, 0, none⟩), .pointer (some ⟨br, 0, none⟩), .pointer (some ⟨bm, 0, none⟩)] 208)).size (.cells #[.int .u16 y, .int .u16 x, .int .u16 y] 57)
 have hs : S.Sl S.eU 1 ((W.alloc (.cells #[.int .i64 op, .int .u16 x, .int .u16 y, .int .u16 z, .int .u16 s, .pointer (some ⟨bd, 0, none⟩), .pointer (some ⟨br, 0, none⟩), .pointer (some ⟨bm, 0, none⟩)] 208)).alloc (.cells #[.int .u16 y, .int .u16 x, .int .u16 y] 57)) (some ⟨W.heap.size + 1, 0, none⟩) [y, x, y] := sl_block S.hU _ _ 57 _ (heap_alloc2_new W _ _)
 have hp := put_any op x y z s bd br bm D [y, x, y] (some ⟨W.heap.size + 1, 0, none⟩) 3 _ (h.d.below hb) hs hl
 simp only [List.length_cons, List.length_nil, Nat.reduceAdd] at hp
 clear hb hs
 go_enter Tryz.func106, Tryz.ntmps106
 go_wp2_with fail
 refine hp.mono ?_
 rintro e w1 ⟨rfl, h1, h2⟩
 go_wp2
 go_end0
 exact ⟨rfl, h.put h1 (at_alloc _ (at_alloc _ h2))⟩
theorem do_dup2 (op x y z s : Int) (bd br bm : Nat) (F : Nat -> Prop) (D : List Int) (R : List (Int × Int)) (m : M.MS) (W : World) (h : PS W bd br bm F D R m) (hl : D.length + 4 <= 256) :
  Calls Tryz.prog 107 #[.agg #[.int .i64 op, .int .u16 x, .int .u16 y, .int .u16 z, .int .u16 s, .pointer (some ⟨bd, 0, none⟩), .pointer (some ⟨br, 0, none⟩), .pointer (some ⟨bm, 0, none⟩)]] W fun e W' => e = .returned (.tuple #[]) /\ PD W W' bd br bm F (D ++ [x, y, x, y]) (R) (m) := by
 have hb := (bel_alloc W (.cells #[.int .i64 op, .int .u16 x, .int .u16 y, .int .u16 z, .int .u16 s, .pointer (some ⟨bd, 0, none⟩), .pointer (some ⟨br, 0, none⟩), .pointer (some ⟨bm, 0, none⟩)] 208)).alloc (bel_alloc W (.cells #[.int .i64 op, .int .u16 x, .int .u16 y, .int .u16 z, .int .u16 s, .pointer (some ⟨bd, 0, none⟩), .pointer (some ⟨br, 0, none⟩), .pointer (some ⟨bm, 0, none⟩)] 208)).size (.cells #[.int .u16 x, .int .u16 y, .int .u16 x, .int .u16 y] 57)
 have hs : S.Sl S.eU 1 ((W.alloc (.cells #[.int .i64 op, .int .u16 x, .int .u16 y, .int .u16 z, .int .u16 s, .pointer (some ⟨bd, 0, none⟩), .pointer (some ⟨br, 0, none⟩), .pointer (some ⟨bm, 0, none⟩)] 208)).alloc (.cells #[.int .u16 x, .int .u16 y, .int .u16 x, .int .u16 y] 57)) (some ⟨W.heap.size + 1, 0, none⟩) [x, y, x, y] := sl_block S.hU _ _ 57 _ (heap_alloc2_new W _ _)
 have hp := put_any op x y z s bd br bm D [x, y, x, y] (some ⟨W.heap.size + 1, 0, none⟩) 4 _ (h.d.below hb) hs hl
 simp only [List.length_cons, List.length_nil, Nat.reduceAdd] at hp
 clear hb hs
 go_enter Tryz.func107, Tryz.ntmps107
 go_wp2_with fail
 refine hp.mono ?_
 rintro e w1 ⟨rfl, h1, h2⟩
 go_wp2
 go_end0
 exact ⟨rfl, h.put h1 (at_alloc _ (at_alloc _ h2))⟩
theorem do_peek (op x y z s : Int) (bd br bm : Nat) (F : Nat -> Prop) (D : List Int) (R : List (Int × Int)) (m : M.MS) (W : World) (h : PS W bd br bm F D R m) (hl : D.length + 1 <= 256) :
  Calls Tryz.prog 144 #[.agg #[.int .i64 op, .int .u16 x, .int .u16 y, .int .u16 z, .int .u16 s, .pointer (some ⟨bd, 0, none⟩), .pointer (some ⟨br, 0, none⟩), .pointer (some ⟨bm, 0, none⟩)]] W fun e W' => e = .returned (.tuple #[]) /\ PD W W' bd br bm F (D ++ [s]) (R) (m) := by
 have hb := (bel_alloc W (.cells #[.int .i64 op, .int .u16 x, .int .u16 y, .int .u16 z, .int .u16 s, .pointer (some ⟨bd, 0, none⟩), .pointer (some ⟨br, 0, none⟩), .pointer (some ⟨bm, 0, none⟩)] 208)).alloc (bel_alloc W (.cells #[.int .i64 op, .int .u16 x, .int .u16 y, .int .u16 z, .int .u16 s, .pointer (some ⟨bd, 0, none⟩), .pointer (some ⟨br, 0, none⟩), .pointer (some ⟨bm, 0, none⟩)] 208)).size (.cells #[.int .u16 s] 57)
 have hs : S.Sl S.eU 1 ((W.alloc (.cells #[.int .i64 op, .int .u16 x, .int .u16 y, .int .u16 z, .int .u16 s, .pointer (some ⟨bd, 0, none⟩), .pointer (some ⟨br, 0, none⟩), .pointer (some ⟨bm, 0, none⟩)] 208)).alloc (.cells #[.int .u16 s] 57)) (some ⟨W.heap.size + 1, 0, none⟩) [s] := sl_block S.hU _ _ 57 _ (heap_alloc2_new W _ _)
 have hp := put_any op x y z s bd br bm D [s] (some ⟨W.heap.size + 1, 0, none⟩) 1 _ (h.d.below hb) hs hl
 simp only [List.length_cons, List.length_nil, Nat.reduceAdd] at hp
 clear hb hs
 go_enter Tryz.func144, Tryz.ntmps144
 go_wp2_with fail
 refine hp.mono ?_
 rintro e w1 ⟨rfl, h1, h2⟩
 go_wp2
 go_end0
 exact ⟨rfl, h.put h1 (at_alloc _ (at_alloc _ h2))⟩
theorem do_do (op x y z s : Int) (bd br bm : Nat) (F : Nat -> Prop) (D : List Int) (R : List (Int × Int)) (m : M.MS) (W : World) (h : PS W bd br bm F D R m) (hl : R.length + 2 <= 128) :
  Calls Tryz.prog 96 #[.agg #[.int .i64 op, .int .u16 x, .int .u16 y, .int .u16 z, .int .u16 s, .pointer (some ⟨bd, 0, none⟩), .pointer (some ⟨br, 0, none⟩), .pointer (some ⟨bm, 0, none⟩)]] W fun e W' => e = .returned (.tuple #[]) /\ PD W W' bd br bm F (D) (R ++ [(2, x), (3, y)]) (m) := by
 have hb := (bel_alloc W (.cells #[.int .i64 op, .int .u16 x, .int .u16 y, .int .u16 z, .int .u16 s, .pointer (some ⟨bd, 0, none⟩), .pointer (some ⟨br, 0, none⟩), .pointer (some ⟨bm, 0, none⟩)] 208)).alloc (bel_alloc W (.cells #[.int .i64 op, .int .u16 x, .int .u16 y, .int .u16 z, .int .u16 s, .pointer (some ⟨bd, 0, none⟩), .pointer (some ⟨br, 0, none⟩), .pointer (some ⟨bm, 0, none⟩)] 208)).size (.cells #[.int .i64 2, .int .u16 x, .int .i64 3, .int .u16 y] 106)
 have hs : S.Sl S.eK 2 ((W.alloc (.cells #[.int .i64 op, .int .u16 x, .int .u16 y, .int .u16 z, .int .u16 s, .pointer (some ⟨bd, 0, none⟩), .pointer (some ⟨br, 0, none⟩), .pointer (some ⟨bm, 0, none⟩)] 208)).alloc (.cells #[.int .i64 2, .int .u16 x, .int .i64 3, .int .u16 y] 106)) (some ⟨W.heap.size + 1, 0, none⟩) [(2, x), (3, y)] := sl_block S.hK _ _ 106 _ (heap_alloc2_new W _ _)
 have hp := save_any op x y z s bd br bm R [(2, x), (3, y)] (some ⟨W.heap.size + 1, 0, none⟩) 2 _ (h.r.below hb) hs hl
 simp only [List.length_cons, List.length_nil, Nat.reduceAdd] at hp
 clear hb hs
 go_enter Tryz.func96, Tryz.ntmps96
 go_wp2_with fail
 refine hp.mono ?_
 rintro e w1 ⟨rfl, h1, h2⟩
 go_wp2
 go_end0
 exact ⟨rfl, h.save h1 (at_alloc _ (at_alloc _ h2))⟩
theorem do_toR (op x y z s : Int) (bd br bm : Nat) (F : Nat -> Prop) (D : List Int) (R : List (Int × Int)) (m : M.MS) (W : World) (h : PS W bd br bm F D R m) (hl : R.length + 1 <= 128) :
  Calls Tryz.prog 120 #[.agg #[.int .i64 op, .int .u16 x, .int .u16 y, .int .u16 z, .int .u16 s, .pointer (some ⟨bd, 0, none⟩), .pointer (some ⟨br, 0, none⟩), .pointer (some ⟨bm, 0, none⟩)]] W fun e W' => e = .returned (.tuple #[]) /\ PD W W' bd br bm F (D) (R ++ [(4, x)]) (m) := by
 have hb := (bel_alloc W (.cells #[.int .i64 op, .int .u16 x, .int .u16 y, .int .u16 z, .int .u16 s, .pointer (some ⟨bd, 0, none⟩), .pointer (some ⟨br, 0, none⟩), .pointer (some ⟨bm, 0, none⟩)] 208)).alloc (bel_alloc W (.cells #[.int .i64 op, .int .u16 x, .int .u16 y, .int .u16 z, .int .u16 s, .pointer (some ⟨bd, 0, none⟩), .pointer (some ⟨br, 0, none⟩), .pointer (some ⟨bm, 0, none⟩)] 208)).size (.cells #[.int .i64 4, .int .u16 x] 106)
 have hs : S.Sl S.eK 2 ((W.alloc (.cells #[.int .i64 op, .int .u16 x, .int .u16 y, .int .u16 z, .int .u16 s, .pointer (some ⟨bd, 0, none⟩), .pointer (some ⟨br, 0, none⟩), .pointer (some ⟨bm, 0, none⟩)] 208)).alloc (.cells #[.int .i64 4, .int .u16 x] 106)) (some ⟨W.heap.size + 1, 0, none⟩) [(4, x)] := sl_block S.hK _ _ 106 _ (heap_alloc2_new W _ _)
 have hp := save_any op x y z s bd br bm R [(4, x)] (some ⟨W.heap.size + 1, 0, none⟩) 1 _ (h.r.below hb) hs hl
 simp only [List.length_cons, List.length_nil, Nat.reduceAdd] at hp
 clear hb hs
 go_enter Tryz.func120, Tryz.ntmps120
 go_wp2_with fail
 refine hp.mono ?_
 rintro e w1 ⟨rfl, h1, h2⟩
 go_wp2
 go_end0
 exact ⟨rfl, h.save h1 (at_alloc _ (at_alloc _ h2))⟩
theorem do_un (op x y z s : Int) (bd br bm : Nat) (F : Nat -> Prop) (D : List Int) (R : List (Int × Int)) (m : M.MS) (W : World) (h : PS W bd br bm F D R m) (hx : C.C x) (hl : D.length + 1 <= 256) :
  Calls Tryz.prog 139 #[.agg #[.int .i64 op, .int .u16 x, .int .u16 y, .int .u16 z, .int .u16 s, .pointer (some ⟨bd, 0, none⟩), .pointer (some ⟨br, 0, none⟩), .pointer (some ⟨bm, 0, none⟩)]] W fun e W' => e = .returned (.tuple #[]) /\ PD W W' bd br bm F (D ++ [C.un op x]) (R) (m) := by
 have hn := C.unary_any op x hx (W.alloc (.cells #[.int .i64 op, .int .u16 x, .int .u16 y, .int .u16 z, .int .u16 s, .pointer (some ⟨bd, 0, none⟩), .pointer (some ⟨br, 0, none⟩), .pointer (some ⟨bm, 0, none⟩)] 208))
 generalize C.un op x = v at *
 have hb := (bel_alloc W (.cells #[.int .i64 op, .int .u16 x, .int .u16 y, .int .u16 z, .int .u16 s, .pointer (some ⟨bd, 0, none⟩), .pointer (some ⟨br, 0, none⟩), .pointer (some ⟨bm, 0, none⟩)] 208)).alloc (bel_alloc W (.cells #[.int .i64 op, .int .u16 x, .int .u16 y, .int .u16 z, .int .u16 s, .pointer (some ⟨bd, 0, none⟩), .pointer (some ⟨br, 0, none⟩), .pointer (some ⟨bm, 0, none⟩)] 208)).size (.cells #[.int .u16 v] 57)
 have hs : S.Sl S.eU 1 ((W.alloc (.cells #[.int .i64 op, .int .u16 x, .int .u16 y, .int .u16 z, .int .u16 s, .pointer (some ⟨bd, 0, none⟩), .pointer (some ⟨br, 0, none⟩), .pointer (some ⟨bm, 0, none⟩)] 208)).alloc (.cells #[.int .u16 v] 57)) (some ⟨W.heap.size + 1, 0, none⟩) [v] := sl_block S.hU _ _ 57 _ (heap_alloc2_new W _ _)
 have hp := put_any op x y z s bd br bm D [v] (some ⟨W.heap.size + 1, 0, none⟩) 1 _ (h.d.below hb) hs hl
 simp only [List.length_cons, List.length_nil, Nat.reduceAdd] at hp
 clear hb hs
 go_enter Tryz.func139, Tryz.ntmps139
 go_wp2_with fail
 refine hn.mono ?_
 rintro e w1 ⟨rfl, rfl⟩
 go_wp2_with fail
 refine hp.mono ?_
 rintro e w1 ⟨rfl, h1, h2⟩
 go_wp2
 go_end0
 exact ⟨rfl, h.put h1 (at_alloc _ (at_alloc _ h2))⟩
theorem do_bin (op x y z s : Int) (bd br bm : Nat) (F : Nat -> Prop) (D : List Int) (R : List (Int × Int)) (m : M.MS) (W : World) (h : PS W bd br bm F D R m) (hx : C.C x) (hy : C.C y) (hl : D.length + 1 <= 256) :
  Calls Tryz.prog 137 #[.agg #[.int .i64 op, .int .u16 x, .int .u16 y, .int .u16 z, .int .u16 s, .pointer (some ⟨bd, 0, none⟩), .pointer (some ⟨br, 0, none⟩), .pointer (some ⟨bm, 0, none⟩)]] W fun e W' => e = .returned (.tuple #[]) /\ PD W W' bd br bm F (D ++ [C.bi op x y]) (R) (m) := by
 have hn := C.binary_any op x y hx hy (W.alloc (.cells #[.int .i64 op, .int .u16 x, .int .u16 y, .int .u16 z, .int .u16 s, .pointer (some ⟨bd, 0, none⟩), .pointer (some ⟨br, 0, none⟩), .pointer (some ⟨bm, 0, none⟩)] 208))
 generalize C.bi op x y = v at *
 have hb := (bel_alloc W (.cells #[.int .i64 op, .int .u16 x, .int .u16 y, .int .u16 z, .int .u16 s, .pointer (some ⟨bd, 0, none⟩), .pointer (some ⟨br, 0, none⟩), .pointer (some ⟨bm, 0, none⟩)] 208)).alloc (bel_alloc W (.cells #[.int .i64 op, .int .u16 x, .int .u16 y, .int .u16 z, .int .u16 s, .pointer (some ⟨bd, 0, none⟩), .pointer (some ⟨br, 0, none⟩), .pointer (some ⟨bm, 0, none⟩)] 208)).size (.cells #[.int .u16 v] 57)
 have hs : S.Sl S.eU 1 ((W.alloc (.cells #[.int .i64 op, .int .u16 x, .int .u16 y, .int .u16 z, .int .u16 s, .pointer (some ⟨bd, 0, none⟩), .pointer (some ⟨br, 0, none⟩), .pointer (some ⟨bm, 0, none⟩)] 208)).alloc (.cells #[.int .u16 v] 57)) (some ⟨W.heap.size + 1, 0, none⟩) [v] := sl_block S.hU _ _ 57 _ (heap_alloc2_new W _ _)
 have hp := put_any op x y z s bd br bm D [v] (some ⟨W.heap.size + 1, 0, none⟩) 1 _ (h.d.below hb) hs hl
 simp only [List.length_cons, List.length_nil, Nat.reduceAdd] at hp
 clear hb hs
 go_enter Tryz.func137, Tryz.ntmps137
 go_wp2_with fail
 refine hn.mono ?_
 rintro e w1 ⟨rfl, rfl⟩
 go_wp2_with fail
 refine hp.mono ?_
 rintro e w1 ⟨rfl, h1, h2⟩
 go_wp2
 go_end0
 exact ⟨rfl, h.put h1 (at_alloc _ (at_alloc _ h2))⟩
set_option maxHeartbeats 2000000
set_option maxRecDepth 100000
theorem size3 : (Tryz.prog.info? 205).map (·.size) = some 3 := by kernel_rfl
def tk0 (bd : Nat) (D : List Int) (W : World) (i : Value) (wr : World) : Prop :=
 ((i = .int .i64 (-1) /\ S.HasD wr bd (D) /\ wr.heap[W.heap.size + 1]? = some (.cells [.int .u16 0, .int .u16 0, .int .u16 0].toArray 205 (0, 0)))) /\ wr.heap[W.heap.size]? = some (.cells [.int .u16 0, .int .u16 0, .int .u16 0].toArray 205 (0, 0)) /\ S.At bd W wr
theorem take_0 (bd : Nat) (D : List Int) (W : World) (h : S.HasD W bd (D)) :
  Calls Tryz.prog 93 #[.pointer (some ⟨bd, 0, none⟩), .int .i64 0] W fun e W' => e = .returned (.agg #[.int .u16 0, .int .u16 0, .int .u16 0]) /\ S.HasD W' bd D /\ S.At bd W W' := by
 obtain ⟨w0, hw0⟩ : ∃ w0, (W.alloc (.cells #[.int .u16 0, .int .u16 0, .int .u16 0] 205)).alloc (.cells #[.int .u16 0, .int .u16 0, .int .u16 0] 205) = w0 := ⟨_, rfl⟩
 have hb : Below W.heap.size W w0 := by rw [<- hw0]; exact ((Below.refl _ W).alloc (Nat.le_refl _) _).alloc (by simp) _
 have r0 : w0.heap[W.heap.size]? = some (.cells [.int .u16 0, .int .u16 0, .int .u16 0].toArray 205 (0, 0)) := by rw [<- hw0]; exact (Below.heap_alloc _ _ _ (by simp)).trans (heap_alloc_new W _)
 have r1 : w0.heap[W.heap.size + 1]? = some (.cells [.int .u16 0, .int .u16 0, .int .u16 0].toArray 205 (0, 0)) := by rw [<- hw0]; exact heap_alloc2_new W _ _
 have hlt := S.lt_of h.1
 have T0 : tk0 bd D  W (.int .i64 (-1)) w0 := ⟨⟨rfl, h.below hb, r1⟩, r0, hb.os, hb.tape, hb.output, hb.size, fun k hk _ => hb.block k hk⟩
 clear hb r0 r1
 have T := S.hid T0
 clear T0
 go_enter Tryz.func93, Tryz.ntmps93
 go_wp2
 go_loopw [6] (fun i wr => tk0 bd D  W i wr) (fun i _ => ((intOf i) + 1).toNat)
 case atStart => exact T.out
 case round =>
  clear T
  obtain ⟨hc, r0, ht⟩ := hrel
  obtain ⟨rfl, hd, r1⟩ := hc
  have hx := setRow_heap wr W.heap.size _ [.int .u16 0, .int .u16 0, .int .u16 0].toArray _ _ r0
  have ht2 : S.At bd W (wr.setRow W.heap.size [.int .u16 0, .int .u16 0, .int .u16 0].toArray) := ⟨ht.os, ht.tape, ht.output, by rw [setRow_size]; exact ht.size, fun k hk hn => (setRow_other wr _ k _ (by omega)).trans (ht.block k hk hn)⟩
  have hd2 : S.HasD (wr.setRow W.heap.size [.int .u16 0, .int .u16 0, .int .u16 0].toArray) bd D := hd.kept (setRow_other wr _ _ _ (by omega))
  go_wp2_with (first | (refine wpList_load_row rfl 205 _ rfl (W.heap.size + 1) rfl 205 _ (0, 0) _ r1 Tryz.underlying205 rfl (by exact size3) ?_) | (refine wpList_store_row rfl 205 _ _ rfl W.heap.size _ rfl rfl 205 _ r0 (by exact size3) (by rfl) (by simp [Value.oneCell']) ?_))
  refine bodyPost_ret (results_cell_row rfl _ _ W.heap.size 205 _ (0, 0) _ rfl hx Tryz.underlying205 rfl size3) rfl ⟨rfl, hd2, ht2⟩
def tk1 (bd : Nat) (D : List Int) (x : Int) (W : World) (i : Value) (wr : World) : Prop :=
 ((i = .int .i64 (-1) /\ S.HasD wr bd (D) /\ wr.heap[W.heap.size + 1]? = some (.cells [.int .u16 x, .int .u16 0, .int .u16 0].toArray 205 (0, 0))) \/
 (i = .int .i64 (0) /\ S.HasD wr bd (D ++ [x]) /\ wr.heap[W.heap.size + 1]? = some (.cells [.int .u16 0, .int .u16 0, .int .u16 0].toArray 205 (0, 0)))) /\ wr.heap[W.heap.size]? = some (.cells [.int .u16 0, .int .u16 0, .int .u16 0].toArray 205 (0, 0)) /\ S.At bd W wr
theorem take_1 (bd : Nat) (D : List Int) (x : Int) (W : World) (h : S.HasD W bd (D ++ [x])) :
  Calls Tryz.prog 93 #[.pointer (some ⟨bd, 0, none⟩), .int .i64 1] W fun e W' => e = .returned (.agg #[.int .u16 x, .int .u16 0, .int .u16 0]) /\ S.HasD W' bd D /\ S.At bd W W' := by
 obtain ⟨w0, hw0⟩ : ∃ w0, (W.alloc (.cells #[.int .u16 0, .int .u16 0, .int .u16 0] 205)).alloc (.cells #[.int .u16 0, .int .u16 0, .int .u16 0] 205) = w0 := ⟨_, rfl⟩
 have hb : Below W.heap.size W w0 := by rw [<- hw0]; exact ((Below.refl _ W).alloc (Nat.le_refl _) _).alloc (by simp) _
 have r0 : w0.heap[W.heap.size]? = some (.cells [.int .u16 0, .int .u16 0, .int .u16 0].toArray 205 (0, 0)) := by rw [<- hw0]; exact (Below.heap_alloc _ _ _ (by simp)).trans (heap_alloc_new W _)
 have r1 : w0.heap[W.heap.size + 1]? = some (.cells [.int .u16 0, .int .u16 0, .int .u16 0].toArray 205 (0, 0)) := by rw [<- hw0]; exact heap_alloc2_new W _ _
 have hlt := S.lt_of h.1
 have T0 : tk1 bd D x W (.int .i64 (0)) w0 := ⟨.inr (⟨rfl, h.below hb, r1⟩), r0, hb.os, hb.tape, hb.output, hb.size, fun k hk _ => hb.block k hk⟩
 clear hb r0 r1
 have T := S.hid T0
 clear T0
 go_enter Tryz.func93, Tryz.ntmps93
 go_wp2
 go_loopw [6] (fun i wr => tk1 bd D x W i wr) (fun i _ => ((intOf i) + 1).toNat)
 case atStart => exact T.out
 case round =>
  clear T
  obtain ⟨hc, r0, ht⟩ := hrel
  rcases hc with ⟨rfl, hd, r1⟩ | ⟨rfl, hd, r1⟩
  ·have hx := setRow_heap wr W.heap.size _ [.int .u16 x, .int .u16 0, .int .u16 0].toArray _ _ r0
   have ht2 : S.At bd W (wr.setRow W.heap.size [.int .u16 x, .int .u16 0, .int .u16 0].toArray) := ⟨ht.os, ht.tape, ht.output, by rw [setRow_size]; exact ht.size, fun k hk hn => (setRow_other wr _ k _ (by omega)).trans (ht.block k hk hn)⟩
   have hd2 : S.HasD (wr.setRow W.heap.size [.int .u16 x, .int .u16 0, .int .u16 0].toArray) bd D := hd.kept (setRow_other wr _ _ _ (by omega))
   go_wp2_with (first | (refine wpList_load_row rfl 205 _ rfl (W.heap.size + 1) rfl 205 _ (0, 0) _ r1 Tryz.underlying205 rfl (by exact size3) ?_) | (refine wpList_store_row rfl 205 _ _ rfl W.heap.size _ rfl rfl 205 _ r0 (by exact size3) (by rfl) (by simp [Value.oneCell']) ?_))
   refine bodyPost_ret (results_cell_row rfl _ _ W.heap.size 205 _ (0, 0) _ rfl hx Tryz.underlying205 rfl size3) rfl ⟨rfl, hd2, ht2⟩
  ·have hd0 : S.HasD wr bd ((D) ++ [x]) := by simpa using hd
   have hp := S.dpop bd (D) x wr hd0
   go_wp2_with fail
   refine hp.mono ?_
   rintro e w2 ⟨rfl, hd2, ht2⟩
   have q0 : w2.heap[W.heap.size]? = _ := (ht2.block _ (S.lt_of r0) (by omega)).trans r0
   have q1 : w2.heap[W.heap.size + 1]? = _ := (ht2.block _ (S.lt_of r1) (by omega)).trans r1
   have c1 := S.cell_of w2 (W.heap.size + 1) 0 _ 205 _ q1 rfl
   have z1 := S.frozen_of w2 (W.heap.size + 1) 0 _ 205 q1
   have q2 : (w2.setCell ⟨W.heap.size + 1, 0, none⟩ (.int .u16 x)).heap[W.heap.size + 1]? = some (.cells [.int .u16 x, .int .u16 0, .int .u16 0].toArray 205 (0, 0)) := S.setCell_heap w2 (W.heap.size + 1) 0 _ 205 _ q1
   have q3 : (w2.setCell ⟨W.heap.size + 1, 0, none⟩ (.int .u16 x)).heap[W.heap.size]? = _ := (S.setCell_other w2 _ _ _ _ (by omega)).trans q0
   have hd3 : S.HasD (w2.setCell ⟨W.heap.size + 1, 0, none⟩ (.int .u16 x)) bd (D) := hd2.kept (S.setCell_other w2 _ _ _ _ (by omega))
   have ht3 : S.At bd W (w2.setCell ⟨W.heap.size + 1, 0, none⟩ (.int .u16 x)) := ⟨ht2.os.trans ht.os, ht2.tape.trans ht.tape, ht2.output.trans ht.output, by rw [S.setCell_size]; exact Nat.le_trans ht.size ht2.size, fun k hk hn => (S.setCell_other w2 _ _ _ _ (by omega)).trans ((ht2.block k (Nat.lt_of_lt_of_le hk ht.size) hn).trans (ht.block k hk hn))⟩
   have HT := S.hid (And.intro q3 ht3)
   have HD := S.hid (And.intro hd3 q2)
   clear q0 q1 q2 q3 hd2 hd3 ht2 ht3 hp hd0 hd r0 r1 ht
   go_wp2
   go_roundw
   case rel => exact ⟨.inl ⟨rfl, HD.out.1, HD.out.2⟩, HT.out.1, HT.out.2⟩
   case measure => simp [intOf]
def tk2 (bd : Nat) (D : List Int) (x y : Int) (W : World) (i : Value) (wr : World) : Prop :=
 ((i = .int .i64 (-1) /\ S.HasD wr bd (D) /\ wr.heap[W.heap.size + 1]? = some (.cells [.int .u16 x, .int .u16 y, .int .u16 0].toArray 205 (0, 0))) \/
 (i = .int .i64 (0) /\ S.HasD wr bd (D ++ [x]) /\ wr.heap[W.heap.size + 1]? = some (.cells [.int .u16 0, .int .u16 y, .int .u16 0].toArray 205 (0, 0))) \/
 (i = .int .i64 (1) /\ S.HasD wr bd (D ++ [x, y]) /\ wr.heap[W.heap.size + 1]? = some (.cells [.int .u16 0, .int .u16 0, .int .u16 0].toArray 205 (0, 0)))) /\ wr.heap[W.heap.size]? = some (.cells [.int .u16 0, .int .u16 0, .int .u16 0].toArray 205 (0, 0)) /\ S.At bd W wr
theorem take_2 (bd : Nat) (D : List Int) (x y : Int) (W : World) (h : S.HasD W bd (D ++ [x, y])) :
  Calls Tryz.prog 93 #[.pointer (some ⟨bd, 0, none⟩), .int .i64 2] W fun e W' => e = .returned (.agg #[.int .u16 x, .int .u16 y, .int .u16 0]) /\ S.HasD W' bd D /\ S.At bd W W' := by
 obtain ⟨w0, hw0⟩ : ∃ w0, (W.alloc (.cells #[.int .u16 0, .int .u16 0, .int .u16 0] 205)).alloc (.cells #[.int .u16 0, .int .u16 0, .int .u16 0] 205) = w0 := ⟨_, rfl⟩
 have hb : Below W.heap.size W w0 := by rw [<- hw0]; exact ((Below.refl _ W).alloc (Nat.le_refl _) _).alloc (by simp) _
 have r0 : w0.heap[W.heap.size]? = some (.cells [.int .u16 0, .int .u16 0, .int .u16 0].toArray 205 (0, 0)) := by rw [<- hw0]; exact (Below.heap_alloc _ _ _ (by simp)).trans (heap_alloc_new W _)
 have r1 : w0.heap[W.heap.size + 1]? = some (.cells [.int .u16 0, .int .u16 0, .int .u16 0].toArray 205 (0, 0)) := by rw [<- hw0]; exact heap_alloc2_new W _ _
 have hlt := S.lt_of h.1
 have T0 : tk2 bd D x y W (.int .i64 (1)) w0 := ⟨.inr (.inr (⟨rfl, h.below hb, r1⟩)), r0, hb.os, hb.tape, hb.output, hb.size, fun k hk _ => hb.block k hk⟩
 clear hb r0 r1
 have T := S.hid T0
 clear T0
 go_enter Tryz.func93, Tryz.ntmps93
 go_wp2
 go_loopw [6] (fun i wr => tk2 bd D x y W i wr) (fun i _ => ((intOf i) + 1).toNat)
 case atStart => exact T.out
 case round =>
  clear T
  obtain ⟨hc, r0, ht⟩ := hrel
  rcases hc with ⟨rfl, hd, r1⟩ | ⟨rfl, hd, r1⟩ | ⟨rfl, hd, r1⟩
  ·have hx := setRow_heap wr W.heap.size _ [.int .u16 x, .int .u16 y, .int .u16 0].toArray _ _ r0
   have ht2 : S.At bd W (wr.setRow W.heap.size [.int .u16 x, .int .u16 y, .int .u16 0].toArray) := ⟨ht.os, ht.tape, ht.output, by rw [setRow_size]; exact ht.size, fun k hk hn => (setRow_other wr _ k _ (by omega)).trans (ht.block k hk hn)⟩
   have hd2 : S.HasD (wr.setRow W.heap.size [.int .u16 x, .int .u16 y, .int .u16 0].toArray) bd D := hd.kept (setRow_other wr _ _ _ (by omega))
   go_wp2_with (first | (refine wpList_load_row rfl 205 _ rfl (W.heap.size + 1) rfl 205 _ (0, 0) _ r1 Tryz.underlying205 rfl (by exact size3) ?_) | (refine wpList_store_row rfl 205 _ _ rfl W.heap.size _ rfl rfl 205 _ r0 (by exact size3) (by rfl) (by simp [Value.oneCell']) ?_))
   refine bodyPost_ret (results_cell_row rfl _ _ W.heap.size 205 _ (0, 0) _ rfl hx Tryz.underlying205 rfl size3) rfl ⟨rfl, hd2, ht2⟩
  ·have hd0 : S.HasD wr bd ((D) ++ [x]) := by simpa using hd
   have hp := S.dpop bd (D) x wr hd0
   go_wp2_with fail
   refine hp.mono ?_
   rintro e w2 ⟨rfl, hd2, ht2⟩
   have q0 : w2.heap[W.heap.size]? = _ := (ht2.block _ (S.lt_of r0) (by omega)).trans r0
   have q1 : w2.heap[W.heap.size + 1]? = _ := (ht2.block _ (S.lt_of r1) (by omega)).trans r1
   have c1 := S.cell_of w2 (W.heap.size + 1) 0 _ 205 _ q1 rfl
   have z1 := S.frozen_of w2 (W.heap.size + 1) 0 _ 205 q1
   have q2 : (w2.setCell ⟨W.heap.size + 1, 0, none⟩ (.int .u16 x)).heap[W.heap.size + 1]? = some (.cells [.int .u16 x, .int .u16 y, .int .u16 0].toArray 205 (0, 0)) := S.setCell_heap w2 (W.heap.size + 1) 0 _ 205 _ q1
   have q3 : (w2.setCell ⟨W.heap.size + 1, 0, none⟩ (.int .u16 x)).heap[W.heap.size]? = _ := (S.setCell_other w2 _ _ _ _ (by omega)).trans q0
   have hd3 : S.HasD (w2.setCell ⟨W.heap.size + 1, 0, none⟩ (.int .u16 x)) bd (D) := hd2.kept (S.setCell_other w2 _ _ _ _ (by omega))
   have ht3 : S.At bd W (w2.setCell ⟨W.heap.size + 1, 0, none⟩ (.int .u16 x)) := ⟨ht2.os.trans ht.os, ht2.tape.trans ht.tape, ht2.output.trans ht.output, by rw [S.setCell_size]; exact Nat.le_trans ht.size ht2.size, fun k hk hn => (S.setCell_other w2 _ _ _ _ (by omega)).trans ((ht2.block k (Nat.lt_of_lt_of_le hk ht.size) hn).trans (ht.block k hk hn))⟩
   have HT := S.hid (And.intro q3 ht3)
   have HD := S.hid (And.intro hd3 q2)
   clear q0 q1 q2 q3 hd2 hd3 ht2 ht3 hp hd0 hd r0 r1 ht
   go_wp2
   go_roundw
   case rel => exact ⟨.inl ⟨rfl, HD.out.1, HD.out.2⟩, HT.out.1, HT.out.2⟩
   case measure => simp [intOf]
  ·have hd0 : S.HasD wr bd ((D ++ [x]) ++ [y]) := by simpa using hd
   have hp := S.dpop bd (D ++ [x]) y wr hd0
   go_wp2_with fail
   refine hp.mono ?_
   rintro e w2 ⟨rfl, hd2, ht2⟩
   have q0 : w2.heap[W.heap.size]? = _ := (ht2.block _ (S.lt_of r0) (by omega)).trans r0
   have q1 : w2.heap[W.heap.size + 1]? = _ := (ht2.block _ (S.lt_of r1) (by omega)).trans r1
   have c1 := S.cell_of w2 (W.heap.size + 1) 1 _ 205 _ q1 rfl
   have z1 := S.frozen_of w2 (W.heap.size + 1) 1 _ 205 q1
   have q2 : (w2.setCell ⟨W.heap.size + 1, 1, none⟩ (.int .u16 y)).heap[W.heap.size + 1]? = some (.cells [.int .u16 0, .int .u16 y, .int .u16 0].toArray 205 (0, 0)) := S.setCell_heap w2 (W.heap.size + 1) 1 _ 205 _ q1
   have q3 : (w2.setCell ⟨W.heap.size + 1, 1, none⟩ (.int .u16 y)).heap[W.heap.size]? = _ := (S.setCell_other w2 _ _ _ _ (by omega)).trans q0
   have hd3 : S.HasD (w2.setCell ⟨W.heap.size + 1, 1, none⟩ (.int .u16 y)) bd (D ++ [x]) := hd2.kept (S.setCell_other w2 _ _ _ _ (by omega))
   have ht3 : S.At bd W (w2.setCell ⟨W.heap.size + 1, 1, none⟩ (.int .u16 y)) := ⟨ht2.os.trans ht.os, ht2.tape.trans ht.tape, ht2.output.trans ht.output, by rw [S.setCell_size]; exact Nat.le_trans ht.size ht2.size, fun k hk hn => (S.setCell_other w2 _ _ _ _ (by omega)).trans ((ht2.block k (Nat.lt_of_lt_of_le hk ht.size) hn).trans (ht.block k hk hn))⟩
   have HT := S.hid (And.intro q3 ht3)
   have HD := S.hid (And.intro hd3 q2)
   clear q0 q1 q2 q3 hd2 hd3 ht2 ht3 hp hd0 hd r0 r1 ht
   go_wp2
   go_roundw
   case rel => exact ⟨.inr (.inl ⟨rfl, HD.out.1, HD.out.2⟩), HT.out.1, HT.out.2⟩
   case measure => simp [intOf]
def tk3 (bd : Nat) (D : List Int) (x y z : Int) (W : World) (i : Value) (wr : World) : Prop :=
 ((i = .int .i64 (-1) /\ S.HasD wr bd (D) /\ wr.heap[W.heap.size + 1]? = some (.cells [.int .u16 x, .int .u16 y, .int .u16 z].toArray 205 (0, 0))) \/
 (i = .int .i64 (0) /\ S.HasD wr bd (D ++ [x]) /\ wr.heap[W.heap.size + 1]? = some (.cells [.int .u16 0, .int .u16 y, .int .u16 z].toArray 205 (0, 0))) \/
 (i = .int .i64 (1) /\ S.HasD wr bd (D ++ [x, y]) /\ wr.heap[W.heap.size + 1]? = some (.cells [.int .u16 0, .int .u16 0, .int .u16 z].toArray 205 (0, 0))) \/
 (i = .int .i64 (2) /\ S.HasD wr bd (D ++ [x, y, z]) /\ wr.heap[W.heap.size + 1]? = some (.cells [.int .u16 0, .int .u16 0, .int .u16 0].toArray 205 (0, 0)))) /\ wr.heap[W.heap.size]? = some (.cells [.int .u16 0, .int .u16 0, .int .u16 0].toArray 205 (0, 0)) /\ S.At bd W wr
theorem take_3 (bd : Nat) (D : List Int) (x y z : Int) (W : World) (h : S.HasD W bd (D ++ [x, y, z])) :
  Calls Tryz.prog 93 #[.pointer (some ⟨bd, 0, none⟩), .int .i64 3] W fun e W' => e = .returned (.agg #[.int .u16 x, .int .u16 y, .int .u16 z]) /\ S.HasD W' bd D /\ S.At bd W W' := by
 obtain ⟨w0, hw0⟩ : ∃ w0, (W.alloc (.cells #[.int .u16 0, .int .u16 0, .int .u16 0] 205)).alloc (.cells #[.int .u16 0, .int .u16 0, .int .u16 0] 205) = w0 := ⟨_, rfl⟩
 have hb : Below W.heap.size W w0 := by rw [<- hw0]; exact ((Below.refl _ W).alloc (Nat.le_refl _) _).alloc (by simp) _
 have r0 : w0.heap[W.heap.size]? = some (.cells [.int .u16 0, .int .u16 0, .int .u16 0].toArray 205 (0, 0)) := by rw [<- hw0]; exact (Below.heap_alloc _ _ _ (by simp)).trans (heap_alloc_new W _)
 have r1 : w0.heap[W.heap.size + 1]? = some (.cells [.int .u16 0, .int .u16 0, .int .u16 0].toArray 205 (0, 0)) := by rw [<- hw0]; exact heap_alloc2_new W _ _
 have hlt := S.lt_of h.1
 have T0 : tk3 bd D x y z W (.int .i64 (2)) w0 := ⟨.inr (.inr (.inr (⟨rfl, h.below hb, r1⟩))), r0, hb.os, hb.tape, hb.output, hb.size, fun k hk _ => hb.block k hk⟩
 clear hb r0 r1
 have T := S.hid T0
 clear T0
 go_enter Tryz.func93, Tryz.ntmps93
 go_wp2
 go_loopw [6] (fun i wr => tk3 bd D x y z W i wr) (fun i _ => ((intOf i) + 1).toNat)
 case atStart => exact T.out
 case round =>
  clear T
  obtain ⟨hc, r0, ht⟩ := hrel
  rcases hc with ⟨rfl, hd, r1⟩ | ⟨rfl, hd, r1⟩ | ⟨rfl, hd, r1⟩ | ⟨rfl, hd, r1⟩
  ·have hx := setRow_heap wr W.heap.size _ [.int .u16 x, .int .u16 y, .int .u16 z].toArray _ _ r0
   have ht2 : S.At bd W (wr.setRow W.heap.size [.int .u16 x, .int .u16 y, .int .u16 z].toArray) := ⟨ht.os, ht.tape, ht.output, by rw [setRow_size]; exact ht.size, fun k hk hn => (setRow_other wr _ k _ (by omega)).trans (ht.block k hk hn)⟩
   have hd2 : S.HasD (wr.setRow W.heap.size [.int .u16 x, .int .u16 y, .int .u16 z].toArray) bd D := hd.kept (setRow_other wr _ _ _ (by omega))
   go_wp2_with (first | (refine wpList_load_row rfl 205 _ rfl (W.heap.size + 1) rfl 205 _ (0, 0) _ r1 Tryz.underlying205 rfl (by exact size3) ?_) | (refine wpList_store_row rfl 205 _ _ rfl W.heap.size _ rfl rfl 205 _ r0 (by exact size3) (by rfl) (by simp [Value.oneCell']) ?_))
   refine bodyPost_ret (results_cell_row rfl _ _ W.heap.size 205 _ (0, 0) _ rfl hx Tryz.underlying205 rfl size3) rfl ⟨rfl, hd2, ht2⟩
  ·have hd0 : S.HasD wr bd ((D) ++ [x]) := by simpa using hd
   have hp := S.dpop bd (D) x wr hd0
   go_wp2_with fail
   refine hp.mono ?_
   rintro e w2 ⟨rfl, hd2, ht2⟩
   have q0 : w2.heap[W.heap.size]? = _ := (ht2.block _ (S.lt_of r0) (by omega)).trans r0
   have q1 : w2.heap[W.heap.size + 1]? = _ := (ht2.block _ (S.lt_of r1) (by omega)).trans r1
   have c1 := S.cell_of w2 (W.heap.size + 1) 0 _ 205 _ q1 rfl
   have z1 := S.frozen_of w2 (W.heap.size + 1) 0 _ 205 q1
   have q2 : (w2.setCell ⟨W.heap.size + 1, 0, none⟩ (.int .u16 x)).heap[W.heap.size + 1]? = some (.cells [.int .u16 x, .int .u16 y, .int .u16 z].toArray 205 (0, 0)) := S.setCell_heap w2 (W.heap.size + 1) 0 _ 205 _ q1
   have q3 : (w2.setCell ⟨W.heap.size + 1, 0, none⟩ (.int .u16 x)).heap[W.heap.size]? = _ := (S.setCell_other w2 _ _ _ _ (by omega)).trans q0
   have hd3 : S.HasD (w2.setCell ⟨W.heap.size + 1, 0, none⟩ (.int .u16 x)) bd (D) := hd2.kept (S.setCell_other w2 _ _ _ _ (by omega))
   have ht3 : S.At bd W (w2.setCell ⟨W.heap.size + 1, 0, none⟩ (.int .u16 x)) := ⟨ht2.os.trans ht.os, ht2.tape.trans ht.tape, ht2.output.trans ht.output, by rw [S.setCell_size]; exact Nat.le_trans ht.size ht2.size, fun k hk hn => (S.setCell_other w2 _ _ _ _ (by omega)).trans ((ht2.block k (Nat.lt_of_lt_of_le hk ht.size) hn).trans (ht.block k hk hn))⟩
   have HT := S.hid (And.intro q3 ht3)
   have HD := S.hid (And.intro hd3 q2)
   clear q0 q1 q2 q3 hd2 hd3 ht2 ht3 hp hd0 hd r0 r1 ht
   go_wp2
   go_roundw
   case rel => exact ⟨.inl ⟨rfl, HD.out.1, HD.out.2⟩, HT.out.1, HT.out.2⟩
   case measure => simp [intOf]
  ·have hd0 : S.HasD wr bd ((D ++ [x]) ++ [y]) := by simpa using hd
   have hp := S.dpop bd (D ++ [x]) y wr hd0
   go_wp2_with fail
   refine hp.mono ?_
   rintro e w2 ⟨rfl, hd2, ht2⟩
   have q0 : w2.heap[W.heap.size]? = _ := (ht2.block _ (S.lt_of r0) (by omega)).trans r0
   have q1 : w2.heap[W.heap.size + 1]? = _ := (ht2.block _ (S.lt_of r1) (by omega)).trans r1
   have c1 := S.cell_of w2 (W.heap.size + 1) 1 _ 205 _ q1 rfl
   have z1 := S.frozen_of w2 (W.heap.size + 1) 1 _ 205 q1
   have q2 : (w2.setCell ⟨W.heap.size + 1, 1, none⟩ (.int .u16 y)).heap[W.heap.size + 1]? = some (.cells [.int .u16 0, .int .u16 y, .int .u16 z].toArray 205 (0, 0)) := S.setCell_heap w2 (W.heap.size + 1) 1 _ 205 _ q1
   have q3 : (w2.setCell ⟨W.heap.size + 1, 1, none⟩ (.int .u16 y)).heap[W.heap.size]? = _ := (S.setCell_other w2 _ _ _ _ (by omega)).trans q0
   have hd3 : S.HasD (w2.setCell ⟨W.heap.size + 1, 1, none⟩ (.int .u16 y)) bd (D ++ [x]) := hd2.kept (S.setCell_other w2 _ _ _ _ (by omega))
   have ht3 : S.At bd W (w2.setCell ⟨W.heap.size + 1, 1, none⟩ (.int .u16 y)) := ⟨ht2.os.trans ht.os, ht2.tape.trans ht.tape, ht2.output.trans ht.output, by rw [S.setCell_size]; exact Nat.le_trans ht.size ht2.size, fun k hk hn => (S.setCell_other w2 _ _ _ _ (by omega)).trans ((ht2.block k (Nat.lt_of_lt_of_le hk ht.size) hn).trans (ht.block k hk hn))⟩
   have HT := S.hid (And.intro q3 ht3)
   have HD := S.hid (And.intro hd3 q2)
   clear q0 q1 q2 q3 hd2 hd3 ht2 ht3 hp hd0 hd r0 r1 ht
   go_wp2
   go_roundw
   case rel => exact ⟨.inr (.inl ⟨rfl, HD.out.1, HD.out.2⟩), HT.out.1, HT.out.2⟩
   case measure => simp [intOf]
  ·have hd0 : S.HasD wr bd ((D ++ [x, y]) ++ [z]) := by simpa using hd
   have hp := S.dpop bd (D ++ [x, y]) z wr hd0
   go_wp2_with fail
   refine hp.mono ?_
   rintro e w2 ⟨rfl, hd2, ht2⟩
   have q0 : w2.heap[W.heap.size]? = _ := (ht2.block _ (S.lt_of r0) (by omega)).trans r0
   have q1 : w2.heap[W.heap.size + 1]? = _ := (ht2.block _ (S.lt_of r1) (by omega)).trans r1
   have c1 := S.cell_of w2 (W.heap.size + 1) 2 _ 205 _ q1 rfl
   have z1 := S.frozen_of w2 (W.heap.size + 1) 2 _ 205 q1
   have q2 : (w2.setCell ⟨W.heap.size + 1, 2, none⟩ (.int .u16 z)).heap[W.heap.size + 1]? = some (.cells [.int .u16 0, .int .u16 0, .int .u16 z].toArray 205 (0, 0)) := S.setCell_heap w2 (W.heap.size + 1) 2 _ 205 _ q1
   have q3 : (w2.setCell ⟨W.heap.size + 1, 2, none⟩ (.int .u16 z)).heap[W.heap.size]? = _ := (S.setCell_other w2 _ _ _ _ (by omega)).trans q0
   have hd3 : S.HasD (w2.setCell ⟨W.heap.size + 1, 2, none⟩ (.int .u16 z)) bd (D ++ [x, y]) := hd2.kept (S.setCell_other w2 _ _ _ _ (by omega))
   have ht3 : S.At bd W (w2.setCell ⟨W.heap.size + 1, 2, none⟩ (.int .u16 z)) := ⟨ht2.os.trans ht.os, ht2.tape.trans ht.tape, ht2.output.trans ht.output, by rw [S.setCell_size]; exact Nat.le_trans ht.size ht2.size, fun k hk hn => (S.setCell_other w2 _ _ _ _ (by omega)).trans ((ht2.block k (Nat.lt_of_lt_of_le hk ht.size) hn).trans (ht.block k hk hn))⟩
   have HT := S.hid (And.intro q3 ht3)
   have HD := S.hid (And.intro hd3 q2)
   clear q0 q1 q2 q3 hd2 hd3 ht2 ht3 hp hd0 hd r0 r1 ht
   go_wp2
   go_roundw
   case rel => exact ⟨.inr (.inr (.inl ⟨rfl, HD.out.1, HD.out.2⟩)), HT.out.1, HT.out.2⟩
   case measure => simp [intOf]
theorem look_none (op : Int) (name : ByteArray) (i o c : Int) (b : Bool) (bl s : Int) (f : Value) (hf : f.oneCell' = true) (p : Value) (W : World) :
  Calls Tryz.prog 92 #[.agg #[.int .i64 op, .string name, .int .i64 i, .int .i64 o, .int .i64 c, .bool b, .int .i64 0, .int .i64 bl, .int .i64 s, f], p] W fun e W' => e = .returned (.tuple #[.int .u16 0, .int .i64 0]) /\ Below W.heap.size W W' := by
 go_enter Tryz.func92, Tryz.ntmps92
 go_wp2
 go_ret2
 exact ⟨rfl, bel_alloc W _⟩
theorem look_at (op : Int) (name : ByteArray) (i o c : Int) (b : Bool) (k bl s : Int) (hk : (k == 0) = false) (f : Value) (p : Value) (u v : Int) (W : World)
  (hc : Calls Tryz.prog 86 #[p, .int .i64 bl, .int .i64 k] (W.alloc (.cells #[.int .i64 op, .string name, .int .i64 i, .int .i64 o, .int .i64 c, .bool b, .int .i64 k, .int .i64 bl, .int .i64 s, f] 160)) fun e W' => e = .returned (.tuple #[.int .u16 u, .int .i64 v]) /\ ∃ q, W' = (W.alloc (.cells #[.int .i64 op, .string name, .int .i64 i, .int .i64 o, .int .i64 c, .bool b, .int .i64 k, .int .i64 bl, .int .i64 s, f] 160)).drewN q) :
  Calls Tryz.prog 92 #[.agg #[.int .i64 op, .string name, .int .i64 i, .int .i64 o, .int .i64 c, .bool b, .int .i64 k, .int .i64 bl, .int .i64 s, f], p] W fun e W' => e = .returned (.tuple #[.int .u16 u, .int .i64 v]) /\ Below W.heap.size W W' := by
 go_enter Tryz.func92, Tryz.ntmps92
 go_wp2_with fail
 refine hc.mono ?_
 rintro e w1 ⟨rfl, q, rfl⟩
 go_wp2
 go_ret2
 have hb := bel_alloc W (.cells #[.int .i64 op, .string name, .int .i64 i, .int .i64 o, .int .i64 c, .bool b, .int .i64 k, .int .i64 bl, .int .i64 s, f] 160)
 exact ⟨rfl, hb.os, hb.tape, hb.output, hb.size, hb.block⟩
end Go.Proofs.YtoemoiehjdmheaaGreat.P
