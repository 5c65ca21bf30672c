import Derived.Test.YteldjmecomngeaaGreatVCopy
import Derived.Test.YteldjmecomngeaaGreatMRCopy
namespace Go.Proofs.YteldjmecomngeaaGreat.V
open Go.RowKit
open Go.Proofs
set_option linter.unusedVariables false
set_option linter.unusedSimpArgs false
set_option maxHeartbeats 2000000
set_option maxRecDepth 100000
def bn (m : M.MS) (n : Nat) : Bool := (m.banks n).isSome
theorem stp_bn (m : M.MS) (z : Int) (x : UInt8) (n : Nat) : bn (M.stp m z x) n = bn m n := by
 unfold M.stp
 split
 ·rfl
 ·split
  ·rfl
  ·split
   ·rfl
   ·split <;> rfl
theorem st_bn (m : M.MS) (z : Int) (x : UInt8) (n : Nat) : bn (M.st m z x) n = bn m n := by
 unfold M.st
 split
 ·rfl
 ·split
  ·split
   ·rfl
   ·rename_i l hl
    unfold bn; simp only [M.upd]
    split
    ·rename_i e; rw [e, hl]; rfl
    ·rfl
  ·split
   ·rfl
   ·split
    ·rfl
    ·exact stp_bn m z x n
theorem sc_bn (m : M.MS) (a b : Int) (n : Nat) : bn (M.sc m a b) n = bn m n := by
 unfold M.sc; rw [st_bn, st_bn]
theorem mem_bn (op x y z : Int) (m : M.MS) (n : Nat) : bn (P.memN op x y z m) n = bn m n := by
 unfold P.memN
 split
 ·exact sc_bn _ _ _ _
 ·exact st_bn _ _ _ _
 ·exact sc_bn _ _ _ _
 ·unfold M.plt; split
  ·exact st_bn _ _ _ _
  ·rfl
 ·rw [st_bn, sc_bn]
 ·exact st_bn _ _ _ _
 ·rfl
def Rk (R : List (Int × Int)) : Prop := ∀ q ∈ R, 1 <= q.1 /\ q.1 <= 4
theorem Rk.ok {R : List (Int × Int)} (h : Rk R) : S.okR R = true := by
 unfold S.okR
 rw [List.all_eq_true]
 intro t ht
 have := h t ht
 simp [S.okK, this.1, this.2]
theorem Rk.app {R : List (Int × Int)} (h : Rk R) {S : List (Int × Int)} (k : Rk S) : Rk (R ++ S) := by
 intro q hq
 rcases List.mem_append.1 hq with e | e
 ·exact h q e
 ·exact k q e
theorem Rk.one {k x : Int} (h : 1 <= k /\ k <= 4) : Rk [(k, x)] := by intro q hq; simp at hq; subst hq; exact h
theorem Rk.sub {R S : List (Int × Int)} (h : Rk R) (k : ∀ q ∈ S, q ∈ R) : Rk S := fun q hq => h q (k q hq)
theorem turn_rk (v : VS) (h : Rk v.R) : Rk (turn v).v.R := by
 unfold turn
 split
 ·exact h
 ·rename_i k i t ht
  have hm : ∀ q ∈ t, q ∈ v.R := fun q hq => by
   have : q ∈ v.R.reverse := by rw [ht]; exact List.mem_cons_of_mem _ hq
   simpa using this
  split
  ·exact h
  ·split
   ·exact h
   ·rename_i k2 l t2
    split
    ·exact h
    ·split
     ·exact (h.sub (S := ((k2, l) :: t2).reverse) fun q hq => hm q (List.mem_reverse.1 hq)).app (Rk.one (by decide))
     ·exact h.sub (S := t2.reverse) fun q hq => hm q (List.mem_cons_of_mem _ (by simpa using hq))
theorem dn_rk (op x be : Int) (v : VS) (h : Rk v.R) : Rk (dn op x be v).v.R := by
 unfold dn
 split
 ·split
  ·exact h
  ·exact h.app (Rk.one (by decide))
 ·split <;> exact h
 ·split <;> exact h
 ·exact h
 ·split <;> exact h
 ·split <;> exact turn_rk v h
 ·split
  ·exact h
  ·rename_i k a t ht
   split
   ·refine h.sub (S := t.reverse) fun q hq => ?_
    have : q ∈ v.R.reverse := by rw [ht]; exact List.mem_cons_of_mem _ (by simpa using hq)
    simpa using this
   ·exact h
 ·exact h
 ·exact h
 ·unfold pl; simp only
  split
  ·show Rk (P.nR _ v.D v.R)
   unfold P.nR P.retN
   split
   ·refine h.app ?_
    intro q hq
    simp at hq
    rcases hq with rfl | rfl <;> simp
   ·exact h.app (Rk.one (by decide))
   ·exact h.sub fun q hq => List.mem_of_mem_take hq
   ·exact h
  ·exact h
theorem dn_bn (op x be : Int) (v : VS) (n : Nat) : bn (dn op x be v).v.m n = bn v.m n := by
 unfold dn
 split
 ·split <;> rfl
 ·split <;> rfl
 ·split <;> rfl
 ·rfl
 ·split <;> rfl
 ·split <;> (simp only; rw [turn_m])
 ·split
  ·rfl
  ·split <;> rfl
 ·rfl
 ·rfl
 ·unfold pl; simp only
  split
  ·exact mem_bn _ _ _ _ _ _
  ·rfl
theorem need_r (n : Nat) (i o : Int) : 0 <= S.need n i o /\ S.need n i o <= 7 := by
 unfold S.need
 split
 ·decide
 ·split <;> decide
theorem lk_r (k : Int) (bl : Nat) (R : List (Int × Int)) : 0 <= (P.lk k bl R).2 /\ (P.lk k bl R).2 <= 7 := by
 unfold P.lk
 split
 ·decide
 ·split
  ·decide
  ·split
   ·show (0 : Int) <= 0 /\ (0 : Int) <= 7; decide
   ·decide
theorem fl_r (op : Int) (D : List Int) (R : List (Int × Int)) : 0 <= P.fl op D R /\ P.fl op D R <= 7 := by
 unfold P.fl P.flt
 split
 ·exact need_r _ _ _
 ·split
  ·exact lk_r _ _ _
  ·split <;> decide
theorem turn_f (v : VS) : 0 <= (turn v).f /\ (turn v).f <= 7 := by
 unfold turn
 split
 ·simp
 ·split
  ·simp
  ·split
   ·simp
   ·split
    ·simp
    ·split <;> simp
theorem dn_fg (op x be : Int) (v : VS) : 0 <= (dn op x be v).f /\ (dn op x be v).f <= 7 := by
 unfold dn
 split
 ·split <;> simp
 ·split <;> simp
 ·split <;> simp
 ·simp
 ·split <;> simp
 ·split
  ·simp
  ·exact turn_f v
 ·split
  ·simp
  ·split <;> simp
 ·simp
 ·simp
 ·exact fl_r _ _ _
theorem look2_f (c : List UInt8) (pc w op : Int) : 0 <= (look2 c pc w op).f /\ (look2 c pc w op).f <= 7 := by
 unfold look2
 split
 ·simp
 ·split <;> simp
theorem look_f (v : VS) : 0 <= (look v).f /\ (look v).f <= 7 := by
 unfold look look0 look1
 split
 ·split
  ·decide
  ·split
   ·decide
   ·exact look2_f _ _ _ _
 ·decide
structure Gd (b : Nat -> Bool) (v : VS) : Prop where
 r : Rk v.R
 s : okS v.st v.fa
 n : ∀ n, bn v.m n = b n
theorem Gd.fail {b : Nat -> Bool} {v : VS} (h : Gd b v) {f : Int} (h0 : 0 <= f /\ f <= 7) (hf : f ≠ 0) : Gd b (fail f v) := ⟨h.r, .inr (.inr ⟨rfl, by show 1 <= f; omega, h0.2⟩), h.n⟩
theorem Gd.cyc {b : Nat -> Bool} {v : VS} (h : Gd b v) (s : Int) : Gd b (cyc s v) := ⟨h.r, h.s, h.n⟩
theorem Gd.bg {b : Nat -> Bool} {v : VS} (h : Gd b v) (p : Int) : Gd b { v with m := M.bg v.m p } := ⟨h.r, h.s, h.n⟩
theorem Gd.doo {b : Nat -> Bool} {v : VS} (h : Gd b v) (h1 : v.st = 1) (op : Nat) (x : Int) : Gd b (doo op x v).2 := by
 have hd := dn_st op x (beh v.pc op) v
 have hf : v.fa = 0 := by
  rcases h.s with ⟨_, e⟩ | ⟨e, _⟩ | ⟨e, _⟩
  ·exact e
  ·rw [h1] at e; exact absurd e (by decide)
  ·rw [h1] at e; exact absurd e (by decide)
 unfold V.doo
 simp only
 split
 ·refine ⟨dn_rk op x _ v h.r, ?_, fun n => (dn_bn op x _ v n).trans (h.n n)⟩
  show okS (dn op x (beh v.pc op) v).v.st (dn op x (beh v.pc op) v).v.fa
  rw [hd.2, hf]
  rcases hd.1 with e | e
  ·exact .inl ⟨e.trans h1, rfl⟩
  ·exact .inr (.inl ⟨e, rfl⟩)
 ·exact h
theorem wk_gd {b : Nat -> Bool} (B : Int) : ∀ (k : Nat) (v : VS) (n s : Int), Gd b v -> Gd b (wk k B v n s).v
 | 0, v, n, s, h => h
 | k + 1, v, n, s, h => by
  unfold wk
  split
  ·rename_i q
   have hc : Gd b (cyc s v) := h.cyc s
   split
   ·split
    ·exact h
    ·split
     ·split
      ·exact hc.doo q.1 _ _
      ·exact wk_gd B k _ _ _ (hc.doo q.1 _ _)
     ·rename_i q5
      exact hc.fail (dn_fg _ _ _ _) q5
   ·rename_i q3; exact h.fail (look_f v) q3
  ·exact h
theorem frame_gd {b : Nat -> Bool} {v : VS} (pad B : Int) (h : Gd b v) : Gd b (frame v pad B).v := wk_gd B _ _ _ _ (h.bg pad)
theorem frame_tones (v : VS) (pad B : Int) (h : B <= 16384) : (frame v pad B).v.m.tones.length <= 60000 := by
 have := wk_tones B B.toNat { v with m := M.bg v.m pad } 0 0
 have e : ({ v with m := M.bg v.m pad } : VS).m.tones.length = 0 := rfl
 rw [e] at this
 unfold frame
 omega
theorem asc_eq : ∀ (a b : List Int), a.Pairwise (· < ·) -> b.Pairwise (· < ·) -> (∀ x, x ∈ a ↔ x ∈ b) -> a = b
 | [], [], _, _, _ => rfl
 | [], y :: b, _, _, h => absurd ((h y).2 (List.mem_cons_self ..)) (by simp)
 | x :: a, [], _, _, h => absurd ((h x).1 (List.mem_cons_self ..)) (by simp)
 | x :: a, y :: b, ha, hb, h => by
  rw [List.pairwise_cons] at ha hb
  have e : x = y := by
   have h1 := (h x).1 (List.mem_cons_self ..); have h2 := (h y).2 (List.mem_cons_self ..)
   rcases List.mem_cons.1 h1 with e | e
   ·exact e
   ·rcases List.mem_cons.1 h2 with f | f
    ·exact f.symm
    ·have := hb.1 x e; have := ha.1 y f; omega
  subst e; rw [asc_eq a b ha.2 hb.2 fun z => ?_]
  constructor
  ·intro hz
   have := ha.1 z hz
   rcases List.mem_cons.1 ((h z).1 (List.mem_cons_of_mem _ hz)) with e | e
   ·omega
   ·exact e
  ·intro hz
   have := hb.1 z hz
   rcases List.mem_cons.1 ((h z).2 (List.mem_cons_of_mem _ hz)) with e | e
   ·omega
   ·exact e
theorem bankG_asc : ∀ (bs : List (Int × List UInt8)) (p : Int), T.bankG p bs = true -> (∀ t ∈ bs, p < t.1 /\ t.1 < 16) /\ (bs.map Prod.fst).Pairwise (· < ·)
 | [], _, _ => ⟨by simp, by simp⟩
 | t :: r, p, h => by
  simp only [T.bankG, Bool.and_eq_true, decide_eq_true_eq] at h; obtain ⟨i1, i2⟩ := bankG_asc r t.1 h.2; refine ⟨fun u hu => ?_, ?_⟩
  ·rcases List.mem_cons.1 hu with rfl | e
   ·exact h.1.1
   ·have := i1 u e; have := h.1.1; omega
  ·rw [List.map_cons, List.pairwise_cons]
   refine ⟨fun x hx => ?_, i2⟩; obtain ⟨u, hu, rfl⟩ := List.mem_map.1 hx; exact (i1 u hu).1
theorem nbk_some (bs : List (Int × List UInt8)) (n : Nat) : (M.nbk bs n).isSome = true ↔ (n : Int) ∈ bs.map Prod.fst := by
 unfold M.nbk
 rw [Option.isSome_map, List.find?_isSome]
 constructor
 ·rintro ⟨t, ht, e⟩
  exact List.mem_map.2 ⟨t, ht, by simpa using e⟩
 ·intro h
  obtain ⟨t, ht, e⟩ := List.mem_map.1 h; exact ⟨t, ht, by simpa using e⟩
theorem same_nums {c : T.Ct} (hc : T.bankG (-1) c.banks = true) {v : VS} (h : Gd (fun n => (M.nbk c.banks n).isSome) v) : (M.inO v.m 16).map Prod.fst = c.banks.map Prod.fst := by
 obtain ⟨h1, h2⟩ := bankG_asc _ _ hc
 refine asc_eq _ _ ?_ h2 fun x => ?_
 ·rw [List.pairwise_map]; exact M.inO_pw v.m 16
 ·constructor
  ·intro hx
   obtain ⟨t, ht, rfl⟩ := List.mem_map.1 hx; obtain ⟨n, hn, _, hb⟩ := M.inO_lt v.m 16 t ht; rw [hn, <- nbk_some]; have := h.n n; rw [<- this]; unfold bn; rw [hb]; rfl
  ·intro hx
   obtain ⟨t, ht, rfl⟩ := List.mem_map.1 hx; have hr := h1 t ht; obtain ⟨n, hn⟩ : ∃ n : Nat, t.1 = (n : Int) := ⟨t.1.toNat, by omega⟩
   have hs := (nbk_some c.banks n).2 (by rw [<- hn]; exact hx); have hb := (h.n n).trans hs; unfold bn at hb; obtain ⟨l, hl⟩ := Option.isSome_iff_exists.1 hb; exact List.mem_map.2 ⟨((n : Int), l), (M.inO_mem v.m n l 16).2 ⟨by omega, hl⟩, hn.symm⟩
theorem born_gd (c : T.Ct) : Gd (fun n => (M.nbk c.banks n).isSome) (born c) := ⟨fun q hq => (by cases hq), .inl ⟨rfl, rfl⟩, fun n => rfl⟩
theorem Gd.may {b : Nat -> Bool} {v : VS} (h : Gd b v) (hd : v.D.length <= 256) (hr : v.R.length <= 128) : S.mayS v.D v.R = true := by
 unfold S.mayS
 rw [h.r.ok]; simp [hd, hr]
set_option maxHeartbeats 4000000
set_option maxRecDepth 100000
theorem sizeSt : (Tryz.prog.info? 125).map (·.size) = some 5 := by kernel_rfl
theorem sizeIm : (Tryz.prog.info? 71).map (·.size) = some 8 := by kernel_rfl
theorem standing_yes (pc st fa : Int) (p q : Option Addr) (cd cr : Nat) (D : List Int) (R : List (Int × Int)) (hs : okS st fa) (hm : S.mayS D R = true) (w : World) (h1 : S.Sl S.eU 1 w p D) (h2 : S.Sl S.eK 2 w q R) :
  Calls Tryz.prog 54 #[.agg #[.int .u16 pc, .int .i64 st, .int .i64 fa, .slice p D.length cd, .slice q R.length cr]] w fun e w' => ∃ b1 b2, e = .returned (.tuple #[.agg #[.int .u16 pc, .int .i64 st, .int .i64 fa, .pointer (some ⟨b1, 0, none⟩), .pointer (some ⟨b2, 0, none⟩)], .int .i64 0]) /\ S.HasD w' b1 D /\ S.HasR w' b2 R /\ w.heap.size <= b1 /\ w.heap.size <= b2 /\ b1 ≠ b2 /\ Below w.heap.size w w' := by
 have hl : D.length <= 256 /\ R.length <= 128 := by
  unfold S.mayS at hm; simp only [Bool.and_eq_true, decide_eq_true_eq] at hm; exact hm.2
 obtain ⟨W, hW⟩ : ∃ W, W = ((w.alloc (.cells #[.int .u16 pc, .int .i64 st, .int .i64 fa, .slice p D.length cd, .slice q R.length cr] 46)).alloc (.cells #[.int .u16 0, .int .i64 0, .int .i64 0, .pointer none, .pointer none] 125)) := ⟨_, rfl⟩
 have hB : Below w.heap.size w W := by rw [hW]; exact ((Below.refl _ w).alloc (Nat.le_refl _) _).alloc (by simp) _
 have n1 : W.heap[w.heap.size]? = some (.cells #[.int .u16 pc, .int .i64 st, .int .i64 fa, .slice p D.length cd, .slice q R.length cr] 46 (0, 0)) := by rw [hW]; exact heap_alloc2_old w _ _
 have n2 : W.heap[w.heap.size + 1]? = some (.cells #[.int .u16 0, .int .i64 0, .int .i64 0, .pointer none, .pointer none] 125 (0, 0)) := by rw [hW]; exact heap_alloc2_new w _ _
 have nst := statusMayBe_yes st fa hs
 have ks := S.stacks_any p q cd cr D R (Nat.le_trans hl.1 (by unfold S.room; omega)) (Nat.le_trans hl.2 (by unfold S.room; omega)) W (h1.below hB) (h2.below hB)
 have a1 := S.cell_of W _ 1 [.int .u16 pc, .int .i64 st, .int .i64 fa, .slice p D.length cd, .slice q R.length cr] _ _ n1 rfl
 have a2 := S.cell_of W _ 2 [.int .u16 pc, .int .i64 st, .int .i64 fa, .slice p D.length cd, .slice q R.length cr] _ _ n1 rfl
 have a3 := S.cell_of W _ 3 [.int .u16 pc, .int .i64 st, .int .i64 fa, .slice p D.length cd, .slice q R.length cr] _ _ n1 rfl
 have a4 := S.cell_of W _ 4 [.int .u16 pc, .int .i64 st, .int .i64 fa, .slice p D.length cd, .slice q R.length cr] _ _ n1 rfl
 have HB := S.hid hB
 have HN1 := S.hid n1
 have HN2 := S.hid n2
 have HM := S.hid hm
 have hW' := hW.symm
 clear h1 h2 hB n1 n2 hW hs hm hl
 go_enter Tryz.func54, Tryz.ntmps54
 go_wp2_with (first | (go_at_call 92; refine (nst _).mono ?_; rintro e wq ⟨rfl, hwq⟩; obtain rfl := hwq.symm))
 refine ks.mono ?_
 rintro e w2 ⟨hb2, hcase⟩
 rcases hcase with ⟨_, b1, b2, rfl, hD, hR, l1, l2, ne⟩ | ⟨hno, _⟩
 case inr => rw [HM.out] at hno; cases hno
 have m1 := (hb2.block _ (S.lt_of HN1.out)).trans HN1.out
 have m2 := (hb2.block _ (S.lt_of HN2.out)).trans HN2.out
 have a0 := S.cell_of w2 _ 0 [.int .u16 pc, .int .i64 st, .int .i64 fa, .slice p D.length cd, .slice q R.length cr] _ _ m1 rfl
 have a1 := S.cell_of w2 _ 1 [.int .u16 pc, .int .i64 st, .int .i64 fa, .slice p D.length cd, .slice q R.length cr] _ _ m1 rfl
 have a2 := S.cell_of w2 _ 2 [.int .u16 pc, .int .i64 st, .int .i64 fa, .slice p D.length cd, .slice q R.length cr] _ _ m1 rfl
 have hB2 := trB HB.out hb2 HB.out.size
 have hlt := S.lt_of HN2.out
 have HX := S.hid (And.intro hD (And.intro hR (And.intro l1 (And.intro l2 (And.intro ne (And.intro hB2 hlt))))))
 have hs0 := HB.out.size
 clear ks nst hb2 hD hR l1 l2 ne hB2 hlt m1 HN1 hs0 hW' a3 a4
 go_wp2_with (refine wpList_store_row rfl 125 _ _ rfl (w.heap.size + 1) _ rfl rfl 125 #[.int .u16 0, .int .i64 0, .int .i64 0, .pointer none, .pointer none] m2 (by exact sizeSt) (by rfl) (by simp [Value.oneCell']) ?_)
 have hfin := setRow_heap w2 (w.heap.size + 1) _ #[.int .u16 pc, .int .i64 st, .int .i64 fa, .pointer (some ⟨b1, 0, none⟩), .pointer (some ⟨b2, 0, none⟩)] _ _ m2
 obtain ⟨hD, hR, l1, l2, ne, hB2, hlt⟩ := HX.out
 have hs0 := HB.out.size
 have o : ∀ k, W.heap.size <= k -> (w2.setRow (w.heap.size + 1) #[.int .u16 pc, .int .i64 st, .int .i64 fa, .pointer (some ⟨b1, 0, none⟩), .pointer (some ⟨b2, 0, none⟩)]).heap[k]? = w2.heap[k]? := fun k hk => setRow_other w2 _ k _ (by omega)
 refine bodyPost_ret (v := .tuple #[.agg #[.int .u16 pc, .int .i64 st, .int .i64 fa, .pointer (some ⟨b1, 0, none⟩), .pointer (some ⟨b2, 0, none⟩)], .int .i64 0]) ?_ rfl ⟨b1, b2, rfl, hD.kept (o _ l1), hR.kept (o _ l2), Nat.le_trans hs0 l1, Nat.le_trans hs0 l2, ne, P.Below.setRow hB2 _ (by omega) _⟩
 rw [results_cell_tmp rfl]
 simp [asAddr, run_loadVar_row _ (w.heap.size + 1) _ 125 _ _ _ hfin Tryz.underlying125 rfl sizeSt]
theorem three (w : World) (a b c : Obj) :
  (((w.alloc a).alloc b).alloc c).heap[w.heap.size]? = some a /\ (((w.alloc a).alloc b).alloc c).heap[w.heap.size + 1]? = some b /\ (((w.alloc a).alloc b).alloc c).heap[w.heap.size + 1 + 1]? = some c /\ Below w.heap.size w (((w.alloc a).alloc b).alloc c) /\ (((w.alloc a).alloc b).alloc c).heap.size = w.heap.size + 3 := by
 have e1 : (w.alloc a).heap.size = w.heap.size + 1 := by simp
 have e2 : ((w.alloc a).alloc b).heap.size = w.heap.size + 1 + 1 := by simp
 have b1 := P.bel_alloc w a
 have b2 := P.bel_alloc (w.alloc a) b
 have b3 := P.bel_alloc ((w.alloc a).alloc b) c
 have h1 := heap_alloc_new w a
 have h2 := heap_alloc_new (w.alloc a) b
 have h3 := heap_alloc_new ((w.alloc a).alloc b) c
 rw [e1] at h2
 rw [e2] at h3
 exact ⟨(b3.block _ (by omega)).trans ((b2.block _ (by omega)).trans h1), (b3.block _ (by omega)).trans h2, h3, trB (trB b1 b2 b1.size) b3 (by omega), by simp⟩
theorem rest_mv (w w2 W3 w4 w5 w6 : World) (b1 b2 bm : Nat) (D : List Int) (R : List (Int × Int)) (pc st fa : Int) (m : M.MS) (code : List UInt8) (p1 : Option Addr) (c1 : Nat) (hpc : C.C pc) (hDC : ∀ x ∈ D, C.C x) (hRC : ∀ q ∈ R, C.C q.2) (hcl : code.length <= 16384)
  (hD : S.HasD w2 b1 D) (hR : S.HasR w2 b2 R) (l1 : w.heap.size <= b1) (l2 : w.heap.size <= b2) (ne : b1 ≠ b2) (hB2 : Below w.heap.size w w2) (b23 : Below w2.heap.size w2 W3) (hM : M.HasM w4 (fun k => W3.heap.size <= k) bm m) (b34 : Below W3.heap.size W3 w4) (b45 : Below w4.heap.size w4 w5) (b56 : Below w5.heap.size w5 w6) (hr : M.Row w6 w5.heap.size (.slice p1 code.length c1) code) :
  MV (w6.alloc (.cells #[.int .u16 pc, .int .i64 st, .int .i64 fa, .pointer (some ⟨b1, 0, none⟩), .pointer (some ⟨b2, 0, none⟩), .slice p1 code.length c1, .pointer (some ⟨bm, 0, none⟩)] 128)) w6.heap.size b1 b2 bm (.slice p1 code.length c1) (fun k => W3.heap.size <= k /\ k < w4.heap.size) ⟨code, pc, st, fa, D, R, m⟩ /\
  Fresh w.heap.size w6.heap.size b1 b2 bm (.slice p1 code.length c1) (fun k => W3.heap.size <= k /\ k < w4.heap.size) /\ Below w.heap.size w (w6.alloc (.cells #[.int .u16 pc, .int .i64 st, .int .i64 fa, .pointer (some ⟨b1, 0, none⟩), .pointer (some ⟨b2, 0, none⟩), .slice p1 code.length c1, .pointer (some ⟨bm, 0, none⟩)] 128)) := by
 have b67 := P.bel_alloc w6 (.cells #[.int .u16 pc, .int .i64 st, .int .i64 fa, .pointer (some ⟨b1, 0, none⟩), .pointer (some ⟨b2, 0, none⟩), .slice p1 code.length c1, .pointer (some ⟨bm, 0, none⟩)] 128)
 have z7 := heap_alloc_new w6 (.cells #[.int .u16 pc, .int .i64 st, .int .i64 fa, .pointer (some ⟨b1, 0, none⟩), .pointer (some ⟨b2, 0, none⟩), .slice p1 code.length c1, .pointer (some ⟨bm, 0, none⟩)] 128)
 have s0 := hB2.size
 have s1 := b23.size
 have s2 := b34.size
 have s3 := b45.size
 have s4 := b56.size
 have s5 := b67.size
 have d1 := S.lt_of hD.1
 have d2 := S.lt_of hR.1
 have b47 : Below w4.heap.size w4 (w6.alloc (.cells #[.int .u16 pc, .int .i64 st, .int .i64 fa, .pointer (some ⟨b1, 0, none⟩), .pointer (some ⟨b2, 0, none⟩), .slice p1 code.length c1, .pointer (some ⟨bm, 0, none⟩)] 128)) := trB (trB b45 b56 b45.size) b67 (by omega)
 have b27 : Below w2.heap.size w2 (w6.alloc (.cells #[.int .u16 pc, .int .i64 st, .int .i64 fa, .pointer (some ⟨b1, 0, none⟩), .pointer (some ⟨b2, 0, none⟩), .slice p1 code.length c1, .pointer (some ⟨bm, 0, none⟩)] 128)) := trB (trB b23 b34 b23.size) b47 (by omega)
 have hM' : M.HasM w4 (fun k => W3.heap.size <= k /\ k < w4.heap.size) bm m := M.HasM.mono (G := fun k => W3.heap.size <= k /\ k < w4.heap.size) hM fun i hi e => ⟨e, hi⟩
 refine ⟨⟨z7, ⟨hD.below b27, hR.below b27, hM'.kept fun i hi _ => b47.block i hi, ne, (by rintro ⟨e, _⟩; omega), (by rintro ⟨e, _⟩; omega)⟩, (hr.below b67).sl, hcl, ?_, ?_, ?_, by omega, by omega, (by rintro ⟨_, e⟩; omega), ⟨hpc.1, hpc.2, hDC, hRC⟩⟩, ⟨by omega, by omega, by omega, ?_, ?_⟩, trB hB2 b27 s0⟩
 ·intro k e; have := own_lt hr k e; omega
 ·intro k e; have := own_lt hr k e; exact ⟨by omega, by omega, by omega, by rintro ⟨_, f⟩; omega⟩
 ·rintro k ⟨_, e⟩; omega
 ·intro k e; have := own_lt hr k e; omega
 ·rintro k ⟨e, _⟩; omega
theorem restore_is (v : Value) (c : T.Ct) (ep : Option Addr) (ec : Nat) (bp : Option Addr) (bc : Nat) (kv : Value) (pc st fa : Int) (p q : Option Addr) (cd cr : Nat) (D : List Int) (R : List (Int × Int)) (m : M.MS) (ip rp sp : Option Addr) (icap rc scap : Nat) (w : World)
  (h : T.IsC w v c ep ec bp bc kv) (hm : T.may c = true) (hpc : C.C pc) (hs : okS st fa) (hmS : S.mayS D R = true) (hDC : ∀ x ∈ D, C.C x) (hRC : ∀ q ∈ R, C.C q.2) (h1 : S.Sl S.eU 1 w p D) (h2 : S.Sl S.eK 2 w q R)
  (hI : M.BnS w ip (M.inO m 16)) (hr : M.Sl w (.slice rp m.ram.length rc) m.ram) (hsc : M.Sl w (.slice sp m.scr.length scap) m.scr) (hw : M.Wf m) (hn : (M.inO m 16).map Prod.fst = c.banks.map Prod.fst) :
  Calls Tryz.prog 25 #[v, .agg #[.int .u16 pc, .int .i64 st, .int .i64 fa, .slice p D.length cd, .slice q R.length cr], .agg #[.slice ip (M.inO m 16).length icap, .slice rp m.ram.length rc, .slice sp m.scr.length scap, .int .u8 m.ch, .int .u8 m.pad, .int .u16 m.pitch, .int .u8 m.vol, .int .u16 m.time]] w fun e w' => ∃ g bd br bm ku F, e = .returned (.tuple #[.pointer (some ⟨g, 0, none⟩), .int .i64 0]) /\ MV w' g bd br bm ku F ⟨c.code, pc, st, fa, D, R, M.rs m⟩ /\ Fresh w.heap.size g bd br bm ku F /\ Below w.heap.size w w' := by
 obtain ⟨kp, kc, rfl, _⟩ := h.code.ex
 have hv := h.val
 subst hv
 unfold T.cv
 obtain ⟨hcl, hbg⟩ := may_parts hm
 obtain ⟨n1, n2, n3, hB, hsz⟩ := three w (.cells #[.slice kp c.code.length kc, .int .u16 (c.entry : Int), .slice ep c.effs.length ec, .slice bp c.banks.length bc] 27) (.cells #[.int .u16 pc, .int .i64 st, .int .i64 fa, .slice p D.length cd, .slice q R.length cr] 46) (.cells #[.slice ip (M.inO m 16).length icap, .slice rp m.ram.length rc, .slice sp m.scr.length scap, .int .u8 m.ch, .int .u8 m.pad, .int .u16 m.pitch, .int .u8 m.vol, .int .u16 m.time] 71)
 obtain ⟨W, hW⟩ : ∃ W, W = (((w.alloc (.cells #[.slice kp c.code.length kc, .int .u16 (c.entry : Int), .slice ep c.effs.length ec, .slice bp c.banks.length bc] 27)).alloc (.cells #[.int .u16 pc, .int .i64 st, .int .i64 fa, .slice p D.length cd, .slice q R.length cr] 46)).alloc (.cells #[.slice ip (M.inO m 16).length icap, .slice rp m.ram.length rc, .slice sp m.scr.length scap, .int .u8 m.ch, .int .u8 m.pad, .int .u16 m.pitch, .int .u8 m.vol, .int .u16 m.time] 71)) := ⟨_, rfl⟩
 rw [<- hW] at n1 n2 n3 hB hsz
 have hC := h.below hB
 have kc' := T.check_any _ c ep ec bp bc _ _ hC
 rw [hm, if_pos rfl] at kc'
 unfold T.cv at kc'
 have hil := M.inO_len m 16
 have HB := S.hid hB
 have HC := S.hid hC
 have HZ1 := S.hid n1
 have HZ2 := S.hid n2
 have HZ3 := S.hid n3
 have HP := S.hid (And.intro hcl (And.intro hs (And.intro hmS (And.intro hpc (And.intro hDC hRC)))))
 have HS1 := S.hid (And.intro (h1.below hB) (h2.below hB))
 have HI := S.hid (And.intro (M.BnS.below hI hB) (And.intro (hr.below hB) (hsc.below hB)))
 have HN := S.hid hn
 have HWF := S.hid hw
 have hW' := hW.symm
 clear h hC hB hbg hcl hm n1 n2 n3 hs hmS hpc hDC hRC h1 h2 hI hr hsc hn hw hW
 go_enter Tryz.func25, Tryz.ntmps25
 have n1 := HZ1.out
 go_wp2_with (refine wpList_load_row rfl 27 _ rfl w.heap.size rfl 27 _ (0, 0) _ n1 Tryz.underlying27 rfl (by exact size27) ?_)
 refine kc'.mono ?_
 rintro e w1 ⟨rfl, hb1⟩
 have m1 := (hb1.block _ (S.lt_of HZ1.out)).trans HZ1.out
 have m2 := (hb1.block _ (S.lt_of HZ2.out)).trans HZ2.out
 have m3 := (hb1.block _ (S.lt_of HZ3.out)).trans HZ3.out
 have ks := standing_yes pc st fa p q cd cr D R HP.out.2.1 HP.out.2.2.1 w1 (HS1.out.1.below hb1) (HS1.out.2.below hb1)
 have HC1 := S.hid (HC.out.below hb1)
 have HB1 := S.hid (trB HB.out hb1 HB.out.size)
 have HI1 := S.hid (And.intro (M.BnS.below HI.out.1 hb1) (And.intro (HI.out.2.1.below hb1) (HI.out.2.2.below hb1)))
 have HM1 := S.hid (And.intro m1 m3)
 have hs01 : w.heap.size <= w1.heap.size := HB1.out.size
 clear kc' hb1 n1 m1 m3 HC HI HS1 HB HZ1 HZ2 HZ3 hW' hsz
 go_wp2_with (refine wpList_load_row rfl 46 _ rfl (w.heap.size + 1) rfl 46 _ (0, 0) _ m2 Tryz.underlying46 rfl (by exact size46) ?_)
 refine ks.mono ?_
 rintro e w2 ⟨b1, b2, rfl, hD, hR, l1, l2, ne, hb2⟩
 obtain ⟨z3, r3, b3⟩ := mkRow w2 #[.int .u16 0, .int .i64 0, .int .i64 0, .pointer none, .pointer none] #[.int .u16 pc, .int .i64 st, .int .i64 fa, .pointer (some ⟨b1, 0, none⟩), .pointer (some ⟨b2, 0, none⟩)] 125
 have hB3 := trB hb2 b3 hb2.size
 have g1 := (hB3.block _ (S.lt_of HM1.out.1)).trans HM1.out.1
 have g3 := (hB3.block _ (S.lt_of HM1.out.2)).trans HM1.out.2
 have km := M.restore_yes ip icap (M.inO m 16) (Nat.le_trans hil (by unfold M.room; omega)) rp sp rc scap m _ (M.BnS.below HI1.out.1 hB3) m.ram m.scr (HI1.out.2.1.below hB3) (HI1.out.2.2.below hB3) (M.inO_wh m HWF.out) (M.inO_may m HWF.out) HWF.out.ch0 HWF.out.pad0 HWF.out.pad1 HWF.out.pitch0 HWF.out.pitch1 HWF.out.vol0 HWF.out.vol1 HWF.out.time0 HWF.out.time1
 rw [M.mR_rs m HWF.out] at km
 unfold M.imgC at km
 have HD := S.hid (And.intro hD (And.intro hR (And.intro (Nat.le_trans hs01 l1) (And.intro (Nat.le_trans hs01 l2) ne))))
 have HB2 := S.hid (trB HB1.out hb2 HB1.out.size)
 have HB3 := S.hid b3
 have HC3 := S.hid (HC1.out.below hB3)
 have HI3 := S.hid (M.BnS.below HI1.out.1 hB3)
 have HG := S.hid (And.intro g1 (And.intro g3 r3))
 clear ks hD hR l1 l2 ne hb2 b3 hB3 g1 r3 HC1 HI1 HM1 HB1 m2 hs01
 go_wp2_with (first
  | (refine wpList_store_row rfl 125 _ _ rfl w2.heap.size _ rfl rfl 125 #[.int .u16 0, .int .i64 0, .int .i64 0, .pointer none, .pointer none] z3 (by exact sizeSt) (by rfl) (by simp [Value.oneCell']) ?_)
  | (refine wpList_load_row rfl 71 _ rfl (w.heap.size + 1 + 1) rfl 71 _ (0, 0) _ g3 Tryz.underlying71 rfl (by exact sizeIm) ?_))
 generalize hW3 : ((w2.alloc (.cells #[.int .u16 0, .int .i64 0, .int .i64 0, .pointer none, .pointer none] 125)).setRow w2.heap.size #[.int .u16 pc, .int .i64 st, .int .i64 fa, .pointer (some ⟨b1, 0, none⟩), .pointer (some ⟨b2, 0, none⟩)]) = W3 at *
 clear hW3 g3 z3
 generalize hNN : w2.heap.size = NN at *
 refine km.mono ?_
 rintro e w4 ⟨bm, rfl, hM, hb4⟩
 have i1 := (hb4.block _ (S.lt_of HG.out.1)).trans HG.out.1
 have i3 := (hb4.block _ (S.lt_of HG.out.2.1)).trans HG.out.2.1
 have ir := (hb4.block _ (S.lt_of HG.out.2.2)).trans HG.out.2.2
 have x0 := S.cell_of w4 _ 0 [.slice ip (M.inO m 16).length icap, .slice rp m.ram.length rc, .slice sp m.scr.length scap, .int .u8 m.ch, .int .u8 m.pad, .int .u16 m.pitch, .int .u8 m.vol, .int .u16 m.time] _ _ i3 rfl
 have x3 := S.cell_of w4 _ 3 [.slice kp c.code.length kc, .int .u16 (c.entry : Int), .slice ep c.effs.length ec, .slice bp c.banks.length bc] _ _ i1 rfl
 have kn := sameNumbers_yes ip bp icap bc (M.inO m 16) c.banks (Nat.le_trans hil (by decide)) HN.out w4 (M.BnS.below HI3.out hb4) (HC3.out.below hb4).banks
 have HM4 := S.hid (And.intro hM hb4)
 have HC4 := S.hid (HC3.out.below hb4)
 have HG4 := S.hid (And.intro i1 ir)
 clear km hM hb4 i1 i3 ir HG HC3 HI3
 go_wp2_with fail
 refine kn.mono ?_
 rintro e w5 ⟨rfl, nq, hw5⟩
 have b45 : Below w4.heap.size w4 w5 := by rw [hw5]; exact ⟨rfl, rfl, rfl, Nat.le_refl _, fun _ _ => rfl⟩
 have HB45 := S.hid b45
 have HG5 := S.hid (And.intro ((b45.block _ (S.lt_of HG4.out.1)).trans HG4.out.1) ((b45.block _ (S.lt_of HG4.out.2)).trans HG4.out.2))
 have HC5 := S.hid (HC4.out.below b45)
 clear kn hw5 b45 x0 x3 HG4 HC4
 go_wp2_with fail
 have HS : ∀ W', Below w5.heap.size w5 W' -> (fun w' : World => w'.cell? ⟨w.heap.size, 0, none⟩ = some (.slice kp c.code.length kc) /\ w'.cell? ⟨NN, 0, none⟩ = some (.int .u16 pc) /\ w'.cell? ⟨NN, 1, none⟩ = some (.int .i64 st) /\ w'.cell? ⟨NN, 2, none⟩ = some (.int .i64 fa) /\ w'.cell? ⟨NN, 3, none⟩ = some (.pointer (some ⟨b1, 0, none⟩)) /\ w'.cell? ⟨NN, 4, none⟩ = some (.pointer (some ⟨b2, 0, none⟩))) W' := fun W' hb => ⟨T.below_cell hb _ _ (S.cell_of w5 _ 0 [.slice kp c.code.length kc, .int .u16 (c.entry : Int), .slice ep c.effs.length ec, .slice bp c.banks.length bc] _ _ HG5.out.1 rfl), T.below_cell hb _ _ (S.cell_of w5 _ 0 [.int .u16 pc, .int .i64 st, .int .i64 fa, .pointer (some ⟨b1, 0, none⟩), .pointer (some ⟨b2, 0, none⟩)] _ _ HG5.out.2 rfl), T.below_cell hb _ _ (S.cell_of w5 _ 1 [.int .u16 pc, .int .i64 st, .int .i64 fa, .pointer (some ⟨b1, 0, none⟩), .pointer (some ⟨b2, 0, none⟩)] _ _ HG5.out.2 rfl), T.below_cell hb _ _ (S.cell_of w5 _ 2 [.int .u16 pc, .int .i64 st, .int .i64 fa, .pointer (some ⟨b1, 0, none⟩), .pointer (some ⟨b2, 0, none⟩)] _ _ HG5.out.2 rfl), T.below_cell hb _ _ (S.cell_of w5 _ 3 [.int .u16 pc, .int .i64 st, .int .i64 fa, .pointer (some ⟨b1, 0, none⟩), .pointer (some ⟨b2, 0, none⟩)] _ _ HG5.out.2 rfl), T.below_cell hb _ _ (S.cell_of w5 _ 4 [.int .u16 pc, .int .i64 st, .int .i64 fa, .pointer (some ⟨b1, 0, none⟩), .pointer (some ⟨b2, 0, none⟩)] _ _ HG5.out.2 rfl)⟩
 have bdr : Below w5.heap.size w5 w5.drew := ⟨rfl, rfl, rfl, Nat.le_refl _, fun _ _ => rfl⟩
 have HS := S.hid HS
 have s0 := HS.out w5.drew bdr
 have k3 := M.clone_any (.slice kp c.code.length kc) c.code HC5.out.clen w5.drew (HC5.out.code.below bdr)
 have HBd := S.hid bdr
 clear bdr HG5
 refine wp_region_held_drew (S := (fun w' : World => w'.cell? ⟨w.heap.size, 0, none⟩ = some (.slice kp c.code.length kc) /\ w'.cell? ⟨NN, 0, none⟩ = some (.int .u16 pc) /\ w'.cell? ⟨NN, 1, none⟩ = some (.int .i64 st) /\ w'.cell? ⟨NN, 2, none⟩ = some (.int .i64 fa) /\ w'.cell? ⟨NN, 3, none⟩ = some (.pointer (some ⟨b1, 0, none⟩)) /\ w'.cell? ⟨NN, 4, none⟩ = some (.pointer (some ⟨b2, 0, none⟩)))) (by kernel_rfl) s0 (fun hHeld => ?_)
 refine V.wtk0 (is := [0, 1, 2, 4]) ?_
 iterate 4
  refine V.wt (v := ?_) rfl (by kernel_rfl) (fun c a w h => h) (by rfl) ?_ hHeld ?_
  rotate_left
  ·(intro w hSw; (try dsimp only at hSw); go_simp; try with_reducible rfl)
  simp only [V.pts]
 refine V.wtkE ?_
 refine V.wrd 3 (by kernel_rfl) rfl fun K hK => ?_
 go_simp
 refine k3.mono ?_
 rintro e w6 ⟨u1, rfl, r1, d1⟩
 obtain ⟨p1, c1, rfl⟩ := own_form r1
 have s1 := HS.out w6 (trB HBd.out d1 (Nat.le_refl _))
 have s2 := HS.out _ (trB (trB HBd.out d1 (Nat.le_refl _)) (P.bel_alloc w6 (.cells #[.int .u16 pc, .int .i64 st, .int .i64 fa, .pointer (some ⟨b1, 0, none⟩), .pointer (some ⟨b2, 0, none⟩), .slice p1 c.code.length c1, .pointer (some ⟨bm, 0, none⟩)] 128)) (trB HBd.out d1 (Nat.le_refl _)).size)
 have HD6 := S.hid (show Below w5.drew.heap.size w5.drew w6 from d1)
 have HR1 := S.hid (show M.Row w6 w5.drew.heap.size (.slice p1 c.code.length c1) c.code from r1)
 clear k3 r1 d1
 refine hK.out _ _ s1 (fun hHeld => ?_)
 clear hK K
 try simp only [Act.put, List.setIfInBounds_toArray, List.set_cons_zero, List.set_cons_succ]
 refine V.wrd 5 (by kernel_rfl) rfl fun K hK => ?_
 go_simp
 refine hK.out _ _ s1 (fun hHeld => ?_)
 clear hK K
 refine V.wrd 6 (by kernel_rfl) rfl fun K hK => ?_
 go_simp
 refine hK.out _ _ s2 (fun hHeld => ?_)
 clear hK K
 refine V.wrd 7 (by kernel_rfl) rfl fun K hK => ?_
 go_simp
 refine hK.out _ _ s2 (fun hHeld => ?_)
 clear hK K
 refine V.wrd 8 (by kernel_rfl) rfl fun K hK => ?_
 go_simp
 refine hK.out _ _ s2 (fun hHeld => ?_)
 clear hK K
 refine wpAnyH_done (by kernel_rfl) ?_ _
 clear hHeld s0 s1 s2
 try simp only [Act.put, List.setIfInBounds_toArray, List.set_cons_zero, List.set_cons_succ]
 go_wp2
 go_ret2
 obtain ⟨hD, hR, l1, l2, ne⟩ := HD.out
 obtain ⟨hcl, _, _, hpc, hDC, hRC⟩ := HP.out
 have b23 := HB3.out
 have hB2 := HB2.out
 subst hNN
 obtain ⟨r1, r2, r3⟩ := rest_mv w w2 W3 w4 w5.drew w6 b1 b2 bm D R pc st fa (M.rs m) c.code p1 c1 hpc hDC hRC hcl hD hR l1 l2 ne hB2 b23 HM4.out.1 HM4.out.2 (trB HB45.out HBd.out HB45.out.size) HD6.out HR1.out
 first
  | exact ⟨w6.heap.size, b1, b2, bm, _, _, rfl, r1, r2, r3⟩
  | exact ⟨w6.heap.size, rfl, b1, b2, bm, _, _, r1, r2, r3⟩
end Go.Proofs.YteldjmecomngeaaGreat.V
