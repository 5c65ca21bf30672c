import Derived.Test.YtlilefhmohkfkaaGreatDoorELwC
import Derived.Test.YtlilefhmohkfkaaGreatDoorVDef
/-! EffectJoins, walked. -/
namespace Go.Proofs.YtlilefhmohkfkaaGreatDoor.E
open Go.RowKit
open Go.Proofs
open Go.Proofs.YtlilefhmohkfkaaGreatDoor.Y (Nd Df Ps ndc dfc hid NV DV D1 cells6 cells9 BV N1 NC own_nv infoNd)
open R (chk Bk)
set_option linter.unusedVariables false
set_option linter.unusedSimpArgs false
set_option maxHeartbeats 4000000
set_option maxRecDepth 100000
theorem own_slice {W : World} {B : Nat} {e : TypeId} {size : Nat} {v : Value} {n : Nat} {xs : List Value} (h : W.ownsRow B e size v n xs) : ∃ p m c, v = .slice p m c := by
  rcases h.2 with ⟨rfl, _⟩ | ⟨g, cap, cur, rfl, _⟩
  · exact ⟨_, _, _, rfl⟩
  · exact ⟨_, _, _, rfl⟩
theorem sizeSh : (Tryz.prog.info? 45).map (·.size) = some 5 := by kernel_rfl
theorem bch {B : Nat} {a b c : World} (h : Below B a b) (hB : B ≤ b.heap.size) (k : Below b.heap.size b c) : Below B a c := h.trans (k.mono hB)
theorem wrap_in (z : Int) (h0 : 0 ≤ z) (h1 : z ≤ 129) : IntKind.i64.wrap z = z := by rw [IntWalk.i64_left, Y.w_in _ (by omega)]
theorem so_n {W w' : World} {ds : List Df} {bs : List Bk} {e : Ending} {n : Nat} (hn : (wordsOf ds).length = n) (hz : chk ds bs = 0) (h : SO W ds bs e w') : Below W.heap.size W w' ∧ ∃ g c, e = .returned (.tuple #[.slice (some ⟨g, 0, none⟩) n c, .int .i64 0]) ∧ w'.ownsRow W.heap.size 47 9 (.slice (some ⟨g, 0, none⟩) n c) n (S.en tyc (shs ds)) := by
  subst hn
  exact so_yes hz h
theorem below_setRow {B g : Nat} {w0 w : World} (hb : Below B w0 w) (hBg : B ≤ g) (cs : Array Value) : Below B w0 (w.setRow g cs) :=
  ⟨hb.os, hb.tape, hb.output, by simpa using hb.size, fun k hk => (setRow_other w g k cs (by omega)).trans (hb.block k hk)⟩
/-- A store of a whole row, as one step of a region that draws. -/
theorem step_store_row {ops : Array Oper} {o : Oper} {a : Act} {w : World} {K : Act → World → Prop} {Q : Exit → Act → World → Prop} {E : Prop} (hgd : o.guard = none) (ty : TypeId) (x y : Operand) (ho : o.op = .store ty x y)
    (g : Nat) (cells : Array Value) (hx : a.eval x = .pointer (some ⟨g, 0, none⟩)) (hy : a.eval y = .agg cells)
    (t : TypeId) (old : Array Value) (hg : w.heap[g]? = some (.cells old t (0, 0))) (hi : (Tryz.prog.info? ty).map (·.size) = some cells.size)
    (hold : old.size = cells.size) (h1 : cells.all (·.oneCell') = true) (h : K (a.put o.dst undef) (w.setRow g cells)) :
    if Region.wanted o (yielded ops a.tmps) = true then Oper.wp Tryz.prog o a w K Q else E := by
  have hw : Region.wanted o (yielded ops a.tmps) = true := by simp [Region.wanted, hgd]
  rw [if_pos hw]
  exact wp_store_row ty x y ho g cells hx hy t old hg hi hold h1 h
theorem joins_walk (a b : List Nd) (av bv : Value) (O : Nat → Prop) (W : World) (hO : ∀ i, O i → i < W.heap.size) (ha : NV W O av a) (hb : NV W O bv b) (la : a.length ≤ 1048576) (lb : b.length ≤ 1048576) (hG : V.GW W) :
    Calls Tryz.prog 3 #[av, bv] W fun e w' => e = .returned (.bool true) ∧ Below W.heap.size W w' := by
  obtain ⟨q1, d1, rfl, _, _⟩ := ha.ex
  obtain ⟨q2, d2, rfl, _, _⟩ := hb.ex
  have H0 := hid (And.intro hO (And.intro ha (And.intro hb hG)))
  clear hO ha hb hG
  go_enter Tryz.func3, Tryz.ntmps3
  go_wp2_with fail
  refine (word_law _ _ _ _ W).mono ?_
  rintro e w1 ⟨rfl, k1⟩
  go_wp2_with fail
  refine (word_law _ _ _ _ w1).mono ?_
  rintro e w2 ⟨rfl, k2⟩
  have K2 := hid (bch k1 k1.size k2)
  clear k1 k2
  have k0 : Below w2.heap.size w2 (w2.alloc (.cells #[] 30)) := (Below.refl _ _).alloc (Nat.le_refl _) _
  have r0 := S.own_empty w2 30 9
  have ha2 := H0.out.2.1.below K2.out H0.out.1
  have hb2 := H0.out.2.2.1.below K2.out H0.out.1
  have hO2 : ∀ i, O i → i < w2.heap.size := fun i hi => Nat.lt_of_lt_of_le (H0.out.1 i hi) K2.out.size
  obtain ⟨cs1, nc1, hc1'⟩ := ha2.nc
  obtain ⟨cs2, nc2, hc2⟩ := hb2.nc
  have hc1 := hc1'.below k0
  have HK0 := hid k0
  have HN := hid (And.intro nc1 (And.intro nc2 (And.intro hc2 hO2)))
  clear k0 nc1 nc2 hc2 hc1' ha2 hb2 hO2
  go_wp2_with (first | (refine S.wpList_append_row _ rfl _ _ 22 30 _ 9 112 Tryz.underlying22 infoNd rfl (by decide) rfl w2.heap.size _ 0 [] rfl r0 _ a.length cs1 rfl hc1 (by unfold S.room; omega) (by unfold maxLen; omega) HK0.out.size (fun v1 w3 hr1 hg1 => ?_); have k3 : Below w2.heap.size w2 w3 := hg1.belowAll (fun gg ee => own_ge r0 gg ee) HK0.out (Nat.le_refl _); have hc3 := HN.out.2.2.1.below k3; have HK3 := hid k3; have HG := hid hg1; clear r0 hc1 k3 hg1; obtain ⟨p3, m3, c3, rfl⟩ := own_slice hr1) | (refine S.wpList_append_row _ rfl _ _ 22 30 _ 9 112 Tryz.underlying22 infoNd rfl (by decide) rfl w2.heap.size _ (0 + a.length) ([] ++ cs1) rfl hr1 _ b.length cs2 rfl hc3 (by unfold S.room; omega) (by unfold maxLen; omega) HK3.out.size (fun v2 w4 hr2 hg2 => ?_); have k4 : Below w2.heap.size w2 w4 := hg2.belowAll (fun gg ee => own_ge hr1 gg ee) HK3.out (Nat.le_refl _); have HK4 := hid k4; have HR2 := hid hr2; obtain ⟨p4, m4, c4, hv4⟩ := own_slice hr2; subst hv4; clear hr1 hc3 hg2 k4 hr2))
  have hnc : NC w4 (fun i => i < w4.heap.size) (a ++ b) (cs1 ++ cs2) := NC.kept (fun i hi => HK4.out.block i (HN.out.2.2.2 i hi)) (fun i hi => Nat.lt_of_lt_of_le (HN.out.2.2.2 i hi) HK4.out.size) (NC.app HN.out.1 HN.out.2.1)
  have hrr : w4.ownsRow w2.heap.size 30 9 (.slice p4 m4 c4) (a ++ b).length (cs1 ++ cs2) := by
    have := HR2.out
    rw [List.nil_append, Nat.zero_add] at this
    rw [List.length_append]; exact this
  have hnv := own_nv hrr hnc (by rw [List.length_append]; omega) (fun g hg => by
    rcases hrr.2 with ⟨e, _⟩ | ⟨g', cap, cur, e, h2, h3, _⟩
    · cases e; cases hg
    · cases e; cases hg; exact S.lt_of h3)
  have H4 := hid (And.intro (bch K2.out K2.out.size HK4.out) hnv)
  clear hnc hrr hnv
  refine (word_law _ _ _ _ w4).mono ?_
  rintro e w5 ⟨rfl, k5⟩
  go_wp2_with fail
  refine (call_law _ w5).mono ?_
  rintro e w6 ⟨rfl, k6⟩
  go_wp2_with fail
  refine (call_law _ w6).mono ?_
  rintro e w7 ⟨rfl, k7⟩
  have K7 := hid (bch (bch k5 k5.size k6) (Nat.le_trans k5.size k6.size) k7)
  clear k5 k6 k7
  obtain ⟨w8, hw8⟩ : ∃ w8, w7.alloc (.cells #[.int .i64 3, .int .i64 0, .int .u16 0, .string ⟨#[97, 97]⟩, .slice none 0 0, .slice none 0 0, .bool false, .int .i64 0, .int .i64 0, .int .i64 3, .int .i64 0, .int .u16 0, .string ⟨#[98, 98]⟩, .slice none 0 0, .slice none 0 0, .bool false, .int .i64 0, .int .i64 0] 30) = w8 := ⟨_, rfl⟩
  have h8 : w8.heap[w7.heap.size]? = some (.cells (S.en lfc [cnd naa, cnd nbb]).toArray 30 (0, 0)) := by rw [← hw8]; exact heap_alloc_new w7 _
  have k8 : Below w7.heap.size w7 w8 := by rw [← hw8]; exact (Below.refl _ _).alloc (Nat.le_refl _) _
  have H8 := hid (And.intro h8 (bch K7.out K7.out.size k8))
  clear h8 k8 K7
  go_wp2_with fail
  refine (word_law _ _ _ _ w8).mono ?_
  rintro e w9 ⟨rfl, k9⟩
  clear hw8
  go_wp2_with fail
  refine (word_law _ _ _ _ w9).mono ?_
  rintro e w10 ⟨rfl, k10⟩
  have K10 := hid (bch k9 k9.size k10)
  clear k9 k10
  obtain ⟨w11, hw11⟩ : ∃ w11, w10.alloc (.cells #[.int .i64 1, .string ⟨#[97, 97]⟩, .int .u16 0, .slice q1 a.length d1, .int .i64 0, .int .i64 0, .int .i64 1, .string ⟨#[98, 98]⟩, .int .u16 0, .slice q2 b.length d2, .int .i64 0, .int .i64 0, .int .i64 1, .string ⟨#[99, 99]⟩, .int .u16 0, .slice p4 m4 c4, .int .i64 0, .int .i64 0, .int .i64 1, .string ⟨#[100, 100]⟩, .int .u16 0, .slice (some ⟨w7.heap.size, 0, none⟩) 2 2, .int .i64 0, .int .i64 0, .int .i64 1, .string ⟨#[109, 97, 105, 110]⟩, .int .u16 0, .slice none 0 0, .int .i64 0, .int .i64 0] 27) = w11 := ⟨_, rfl⟩
  have h11 : w11.heap[w10.heap.size]? = some (.cells (S.en drc [(wd naa a, .slice q1 a.length d1), (wd nbb b, .slice q2 b.length d2), (wd ncc (a ++ b), .slice p4 m4 c4), (wd ndd [cnd naa, cnd nbb], .slice (some ⟨w7.heap.size, 0, none⟩) 2 2), (wd nmain [], .slice none 0 0)]).toArray 27 (0, 0)) := by rw [← hw11]; exact heap_alloc_new w10 _
  have k11 : Below w10.heap.size w10 w11 := by rw [← hw11]; exact (Below.refl _ _).alloc (Nat.le_refl _) _
  go_upto_region 2 with fail
  clear hw11
  obtain ⟨w12, hw12⟩ : ∃ w12, w11.alloc (.cells #[.slice (some ⟨w10.heap.size, 0, none⟩) 5 5, .slice none 0 0] 35) = w12 := ⟨_, rfl⟩
  rw [hw12]
  have h12 : w12.heap[w11.heap.size]? = some (.cells [Value.slice (some ⟨w10.heap.size, 0, none⟩) 5 5, .slice none 0 0].toArray 35 (0, 0)) := by rw [← hw12]; exact heap_alloc_new w11 _
  have k12 : Below w11.heap.size w11 w12 := by rw [← hw12]; exact (Below.refl _ _).alloc (Nat.le_refl _) _
  have z8 : Below w8.heap.size w8 w12 := bch (bch K10.out K10.out.size k11) (Nat.le_trans K10.out.size k11.size) k12
  have z4 : Below w4.heap.size w4 w12 := bch H8.out.2 H8.out.2.size z8
  have zW : Below W.heap.size W w12 := bch H4.out.1 H4.out.1.size z4
  have e8 := (z8.block _ (S.lt_of H8.out.1)).trans H8.out.1
  have e11 := (k12.block _ (S.lt_of h11)).trans h11
  have hDV : DV w12 (fun j => j < w12.heap.size) (.slice (some ⟨w10.heap.size, 0, none⟩) 5 5) (ds5 a b) := dv_lit (c := 5) e11 (S.lt_of e11) (by simp) (by
    intro x hx
    simp only [List.mem_cons, List.not_mem_nil, or_false] at hx
    rcases hx with rfl | rfl | rfl | rfl | rfl
    · exact H0.out.2.1.kept (fun i hi => zW.block i (H0.out.1 i hi)) (fun i hi => Nat.lt_of_lt_of_le (H0.out.1 i hi) zW.size)
    · exact H0.out.2.2.1.kept (fun i hi => zW.block i (H0.out.1 i hi)) (fun i hi => Nat.lt_of_lt_of_le (H0.out.1 i hi) zW.size)
    · exact H4.out.2.kept (fun i hi => z4.block i hi) (fun i hi => Nat.lt_of_lt_of_le hi z4.size)
    · exact nv_leaf (l := [cnd naa, cnd nbb]) e8 (S.lt_of e8) (by decide) (by intro n hn; simp only [List.mem_cons, List.not_mem_nil, or_false] at hn; rcases hn with rfl | rfl <;> exact ⟨rfl, rfl⟩)
    · exact NV.nil (.inl rfl))
  have hnm : ∀ d ∈ ds5 a b, d.nm.size ≤ maxLen := by
    intro d hd
    simp only [ds5, List.mem_cons, List.not_mem_nil, or_false] at hd
    rcases hd with rfl | rfl | rfl | rfl | rfl <;> simp only [wd] <;> decide
  have hck := V.check_any (ds5 a b) [] (by show 5 ≤ 1048576; decide) hnm (by decide) _ _ _ w12 (fun _ h => h) hDV (bv_nil _ _) (H0.out.2.2.2.below zW)
  have c0 := S.cell_of w12 _ 0 _ 35 _ h12 rfl
  have c1 := S.cell_of w12 _ 1 _ 35 _ h12 rfl
  have HK := hid (And.intro zW (And.intro hDV (And.intro hnm h12)))
  clear hDV hnm h12 e8 e11 z8 z4 zW k12 k11 h11 K10 H8 H4 HR2 HK4 HN HK0 K2 HK3 HG
  go_wp2_with fail
  refine hck.mono ?_
  rintro e w13 ⟨rfl, k13⟩
  clear hck hw12 c0 c1
  have H13 := hid (And.intro k13 (bch HK.out.1 HK.out.1.size k13))
  clear k13
  by_cases hz : chk (ds5 a b) [] = 0
  case neg =>
    have hne : (chk (ds5 a b) [] != 0) = true := by simpa using hz
    clear hz
    go_wp2_with fail
    refine (known_any w13).mono ?_
    rintro e w14 ⟨rfl, k14⟩
    have HE := hid (bch H13.out.2 H13.out.2.size k14)
    clear k14
    go_wp2
    go_ret
    exact ⟨rfl, HE.out⟩
  have HZ := hid hz
  rw [hz]
  clear hz
  have hla := leaves_any a _ O w13 (fun i hi => Nat.lt_of_lt_of_le (H0.out.1 i hi) H13.out.2.size) (H0.out.2.1.below H13.out.2 H0.out.1)
  go_wp2_with fail
  refine hla.mono ?_
  rintro e w14 ⟨rfl, k14⟩
  clear hla
  have H14 := hid (And.intro (bch H13.out.1 H13.out.1.size k14) (bch H13.out.2 H13.out.2.size k14))
  clear k14
  cases hva : lvs a with
  | true =>
    go_wp2_with fail
    refine (known_any w14).mono ?_
    rintro e w15 ⟨rfl, k15⟩
    have HE := hid (bch H14.out.2 H14.out.2.size k15)
    clear k15
    go_wp2
    go_ret
    exact ⟨rfl, HE.out⟩
  | false =>
  have hlb := leaves_any b _ O w14 (fun i hi => Nat.lt_of_lt_of_le (H0.out.1 i hi) H14.out.2.size) (H0.out.2.2.1.below H14.out.2 H0.out.1)
  go_wp2_with fail
  refine hlb.mono ?_
  rintro e w15 ⟨rfl, k15⟩
  clear hlb
  have H15 := hid (And.intro (bch H14.out.1 H14.out.1.size k15) (bch H14.out.2 H14.out.2.size k15))
  clear k15
  cases hvb : lvs b with
  | true =>
    go_wp2_with fail
    refine (known_any w15).mono ?_
    rintro e w16 ⟨rfl, k16⟩
    have HE := hid (bch H15.out.2 H15.out.2.size k16)
    clear k16
    go_wp2
    go_ret
    exact ⟨rfl, HE.out⟩
  | false =>
  obtain ⟨t0, t1, t2, t3, t4, hsh, T0, T1, hJ⟩ := five a b HZ.out hva hvb
  have p15 := (H15.out.1.block _ (S.lt_of HK.out.2.2.2)).trans HK.out.2.2.2
  have c0 := S.cell_of w15 _ 0 _ 35 _ p15 rfl
  have c1 := S.cell_of w15 _ 1 _ 35 _ p15 rfl
  have hcs := shapes_any (ds5 a b) [] (by show 5 ≤ 1048576; decide) HK.out.2.2.1 (by decide) _ _ _ w15 (fun j hj => Nat.lt_of_lt_of_le hj H15.out.1.size) (HK.out.2.1.below H15.out.1 (fun _ h => h)) (bv_nil _ _)
  have HJ := hid (And.intro T0 (And.intro T1 hJ))
  have HSH := hid hsh
  clear hva hvb p15 hsh T0 T1 hJ
  go_wp2_with fail
  refine hcs.mono ?_
  intro e w16 hso
  obtain ⟨k16, g, c, rfl, hown⟩ := so_n (n := 5) rfl HZ.out hso
  rw [HSH.out] at hown
  have hown2 : w16.ownsRow w15.heap.size 47 9 (.slice (some ⟨g, 0, none⟩) 5 c) 5 (S.en tyc [t0, t1, t2, t3, t4]) := hown
  obtain ⟨g', c', eg, _, hg, hce⟩ := own_cell hown2 (by decide)
  cases eg
  have H16 := hid (And.intro (bch H15.out.2 H15.out.2.size k16) (And.intro hg hce))
  clear hcs c0 c1 hown hown2 hg hce k16
  have cel : ∀ (j : Nat) (x : Value), (S.en tyc [t0, t1, t2, t3, t4])[j]? = some x → w16.cell? ⟨g, j, none⟩ = some x := H16.out.2.2
  have a6 := cel 6 _ rfl
  have a15 := cel 15 _ rfl
  have a5 := cel 5 _ rfl
  have a14 := cel 14 _ rfl
  clear cel
  go_wp2_with fail
  refine (num_any 0 w16).mono ?_
  rintro e w17 ⟨rfl, hw17⟩
  obtain rfl := hw17.symm
  clear hw17
  by_cases e0 : t0.e = 0
  case neg =>
    have hne : (t0.e != 0) = true := by simpa using e0
    clear e0
    go_wp2_with fail
    refine (known_any w16).mono ?_
    rintro e wk ⟨rfl, kk⟩
    have HE := hid (bch H16.out.1 H16.out.1.size kk)
    clear kk
    go_wp2
    go_ret
    exact ⟨rfl, HE.out⟩
  rw [e0] at a6
  by_cases e1 : t1.e = 0
  case neg =>
    have hne : (t1.e != 0) = true := by simpa using e1
    clear e1 e0
    go_wp2_with fail
    refine (known_any w16).mono ?_
    rintro e wk ⟨rfl, kk⟩
    have HE := hid (bch H16.out.1 H16.out.1.size kk)
    clear kk
    go_wp2
    go_ret
    exact ⟨rfl, HE.out⟩
  rw [e1] at a15
  cases n0 : t0.nv with
  | true =>
    rw [n0] at a5
    clear e0 e1 n0
    go_wp2_with fail
    refine (known_any w16).mono ?_
    rintro e wk ⟨rfl, kk⟩
    have HE := hid (bch H16.out.1 H16.out.1.size kk)
    clear kk
    go_wp2
    go_ret
    exact ⟨rfl, HE.out⟩
  | false =>
  rw [n0] at a5
  cases n1 : t1.nv with
  | true =>
    rw [n1] at a14
    clear e0 e1 n0 n1
    go_wp2_with fail
    refine (known_any w16).mono ?_
    rintro e wk ⟨rfl, kk⟩
    have HE := hid (bch H16.out.1 H16.out.1.size kk)
    clear kk
    go_wp2
    go_ret
    exact ⟨rfl, HE.out⟩
  | false =>
  rw [n1] at a14
  obtain ⟨x1, x2, x3, x4, x5, x6, x7, x8⟩ := HJ.out.1 e0
  obtain ⟨y1, y2, y3, y4, y5, y6, y7, y8⟩ := HJ.out.2.1 e1
  obtain ⟨j2, j3⟩ := HJ.out.2.2 e0 e1 n0 n1
  have HN01 := hid (And.intro n0 n1)
  have HJJ := hid (And.intro j2 j3)
  clear e0 e1 n0 n1 j2 j3
  go_upto_region 9 with fail
  clear a6 a15 a5 a14
  have hS : ∀ wz, Below w16.heap.size w16 wz → (fun wz : World => wz.cell? ⟨g, 1, none⟩ = some (.int .i64 t0.i) ∧ wz.cell? ⟨g, 2, none⟩ = some (.int .i64 t0.o) ∧ wz.cell? ⟨g, 3, none⟩ = some (.int .i64 t0.d) ∧ wz.cell? ⟨g, 4, none⟩ = some (.int .i64 t0.r) ∧ wz.cell? ⟨g, 5, none⟩ = some (.bool false) ∧ wz.cell? ⟨g, 10, none⟩ = some (.int .i64 t1.i) ∧ wz.cell? ⟨g, 11, none⟩ = some (.int .i64 t1.o) ∧ wz.cell? ⟨g, 12, none⟩ = some (.int .i64 t1.d) ∧ wz.cell? ⟨g, 13, none⟩ = some (.int .i64 t1.r) ∧ wz.cell? ⟨g, 14, none⟩ = some (.bool false)) wz := fun wz hz => by
    have hv := hz.block g H16.out.2.1
    have hc : ∀ (j : Nat) (x : Value), (S.en tyc [t0, t1, t2, t3, t4])[j]? = some x → wz.cell? ⟨g, j, none⟩ = some x := fun j x hj => (World.cell?_of_block (w := w16) (a := ⟨g, j, none⟩) hv).trans (H16.out.2.2 j x hj)
    have c5 := hc 5 _ rfl
    have c14 := hc 14 _ rfl
    rw [show t0.nv = false from HN01.out.1] at c5
    rw [show t1.nv = false from HN01.out.2] at c14
    exact ⟨hc 1 _ rfl, hc 2 _ rfl, hc 3 _ rfl, hc 4 _ rfl, c5, hc 10 _ rfl, hc 11 _ rfl, hc 12 _ rfl, hc 13 _ rfl, c14⟩
  have HS := hid hS
  clear hS
  go_cut [8, 9] (fun s8 s9 wc => ∃ b8 b9 : Nat, s8 = .pointer (some ⟨b8, 0, none⟩) ∧ s9 = .pointer (some ⟨b9, 0, none⟩) ∧ HB5 wc b8 t0.i t0.o t0.d t0.r false ∧ HB5 wc b9 t1.i t1.o t1.d t1.r false ∧ Below w16.heap.size w16 wc)
  case first =>
    refine wp_region_held_drew (S := fun wz : World => wz.cell? ⟨g, 1, none⟩ = some (.int .i64 t0.i) ∧ wz.cell? ⟨g, 2, none⟩ = some (.int .i64 t0.o) ∧ wz.cell? ⟨g, 3, none⟩ = some (.int .i64 t0.d) ∧ wz.cell? ⟨g, 4, none⟩ = some (.int .i64 t0.r) ∧ wz.cell? ⟨g, 5, none⟩ = some (.bool false) ∧ wz.cell? ⟨g, 10, none⟩ = some (.int .i64 t1.i) ∧ wz.cell? ⟨g, 11, none⟩ = some (.int .i64 t1.o) ∧ wz.cell? ⟨g, 12, none⟩ = some (.int .i64 t1.d) ∧ wz.cell? ⟨g, 13, none⟩ = some (.int .i64 t1.r) ∧ wz.cell? ⟨g, 14, none⟩ = some (.bool false)) (by kernel_rfl) (HS.out w16.drew (Below.refl _ _).drew) (fun hHeld => ?_)
    have HBy0 := hid (show Below w16.heap.size w16 w16.drew from (Below.refl _ _).drew)
    generalize w16.drew = y0 at *
    refine wpAnyH_take (i := 0) (v := ?_) rfl (by kernel_rfl) (by kernel_rfl) (by kernel_rfl) (fun c a w h => h) (Or.inl ⟨by rfl, ?_⟩) hHeld ?_
    rotate_left
    · (intro w hSw; (try dsimp only at hSw); go_simp; try with_reducible rfl)
    simp only [Act.put, List.getElem_toArray, List.getElem_cons_zero, List.getElem_cons_succ, List.setIfInBounds_toArray, List.set_cons_zero, List.set_cons_succ]
    refine wpAnyH_take (i := 1) (v := ?_) rfl (by kernel_rfl) (by kernel_rfl) (by kernel_rfl) (fun c a w h => h) (Or.inl ⟨by rfl, ?_⟩) hHeld ?_
    rotate_left
    · (intro w hSw; (try dsimp only at hSw); go_simp; try with_reducible rfl)
    simp only [Act.put, List.getElem_toArray, List.getElem_cons_zero, List.getElem_cons_succ, List.setIfInBounds_toArray, List.set_cons_zero, List.set_cons_succ]
    refine wpAnyH_take (i := 2) (v := ?_) rfl (by kernel_rfl) (by kernel_rfl) (by kernel_rfl) (fun c a w h => h) (Or.inl ⟨by rfl, ?_⟩) hHeld ?_
    rotate_left
    · (intro w hSw; (try dsimp only at hSw); go_simp; try with_reducible rfl)
    simp only [Act.put, List.getElem_toArray, List.getElem_cons_zero, List.getElem_cons_succ, List.setIfInBounds_toArray, List.set_cons_zero, List.set_cons_succ]
    refine wpAnyH_take (i := 3) (v := ?_) rfl (by kernel_rfl) (by kernel_rfl) (by kernel_rfl) (fun c a w h => h) (Or.inl ⟨by rfl, ?_⟩) hHeld ?_
    rotate_left
    · (intro w hSw; (try dsimp only at hSw); go_simp; try with_reducible rfl)
    simp only [Act.put, List.getElem_toArray, List.getElem_cons_zero, List.getElem_cons_succ, List.setIfInBounds_toArray, List.set_cons_zero, List.set_cons_succ]
    refine wpAnyH_take (i := 4) (v := ?_) rfl (by kernel_rfl) (by kernel_rfl) (by kernel_rfl) (fun c a w h => h) (Or.inl ⟨by rfl, ?_⟩) hHeld ?_
    rotate_left
    · (intro w hSw; (try dsimp only at hSw); go_simp; try with_reducible rfl)
    simp only [Act.put, List.getElem_toArray, List.getElem_cons_zero, List.getElem_cons_succ, List.setIfInBounds_toArray, List.set_cons_zero, List.set_cons_succ]
    refine wpAnyH_take (i := 5) (v := ?_) rfl (by kernel_rfl) (by kernel_rfl) (by kernel_rfl) (fun c a w h => h) (Or.inl ⟨by rfl, ?_⟩) hHeld ?_
    rotate_left
    · (intro w hSw; (try dsimp only at hSw); go_simp; try with_reducible rfl)
    simp only [Act.put, List.getElem_toArray, List.getElem_cons_zero, List.getElem_cons_succ, List.setIfInBounds_toArray, List.set_cons_zero, List.set_cons_succ]
    refine wpAnyH_take (i := 6) (v := ?_) rfl (by kernel_rfl) (by kernel_rfl) (by kernel_rfl) (fun c a w h => h) (Or.inl ⟨by rfl, ?_⟩) hHeld ?_
    rotate_left
    · (intro w hSw; (try dsimp only at hSw); go_simp; try with_reducible rfl)
    simp only [Act.put, List.getElem_toArray, List.getElem_cons_zero, List.getElem_cons_succ, List.setIfInBounds_toArray, List.set_cons_zero, List.set_cons_succ]
    refine wpAnyH_take (i := 7) (v := ?_) rfl (by kernel_rfl) (by kernel_rfl) (by kernel_rfl) (fun c a w h => h) (Or.inl ⟨by rfl, ?_⟩) hHeld ?_
    rotate_left
    · (intro w hSw; (try dsimp only at hSw); go_simp; try with_reducible rfl)
    simp only [Act.put, List.getElem_toArray, List.getElem_cons_zero, List.getElem_cons_succ, List.setIfInBounds_toArray, List.set_cons_zero, List.set_cons_succ]
    refine wpAnyH_ready (rs := [8, 9]) (by kernel_rfl) (by simp) ?_
    refine AllReadyH.cons rfl (fun K hK => ?_) ?_
    · go_simp
      have kk : Below y0.heap.size y0 (y0.alloc (.cells #[.int .i64 0, .int .i64 0, .int .i64 0, .int .i64 0, .bool false] 45)) := (Below.refl _ _).alloc (Nat.le_refl _) _
      have hz : (y0.alloc (.cells #[.int .i64 0, .int .i64 0, .int .i64 0, .int .i64 0, .bool false] 45)).heap[y0.heap.size]? = some (.cells #[.int .i64 0, .int .i64 0, .int .i64 0, .int .i64 0, .bool false] 45 (0, 0)) := heap_alloc_new y0 _
      have hsz : (y0.alloc (.cells #[.int .i64 0, .int .i64 0, .int .i64 0, .int .i64 0, .bool false] 45)).heap.size = y0.heap.size + 1 := by simp
      generalize y0.alloc (.cells #[.int .i64 0, .int .i64 0, .int .i64 0, .int .i64 0, .bool false] 45) = y5 at *
      obtain ⟨b8, hbn⟩ : ∃ b8, y0.heap.size = b8 := ⟨_, rfl⟩
      have hz2 : y5.heap[b8]? = some (.cells #[.int .i64 0, .int .i64 0, .int .i64 0, .int .i64 0, .bool false] 45 (0, 0)) := by rw [← hbn]; exact hz
      have hlo : w16.heap.size ≤ b8 := by rw [← hbn]; exact HBy0.out.size
      have HAb8 := hid (And.intro hz2 hlo)
      have HBy5 := hid (HBy0.out.trans (kk.mono HBy0.out.size))
      have HKy5 := hid (And.intro kk hbn)
      rw [hbn]
      refine hK.out _ _ (HS.out y5 HBy5.out) (fun hHeld => ?_)
      clear hK K kk hz hsz hbn hz2 hlo
      try simp only [Act.put, List.getElem_toArray, List.getElem_cons_zero, List.getElem_cons_succ, List.setIfInBounds_toArray, List.set_cons_zero, List.set_cons_succ]
      refine wpAnyH_ready (rs := [9]) (by kernel_rfl) (by simp) ?_
      refine AllReadyH.cons rfl (fun K hK => ?_) AllReadyH.nil
      go_simp
      have kk : Below y5.heap.size y5 (y5.alloc (.cells #[.int .i64 0, .int .i64 0, .int .i64 0, .int .i64 0, .bool false] 45)) := (Below.refl _ _).alloc (Nat.le_refl _) _
      have hz : (y5.alloc (.cells #[.int .i64 0, .int .i64 0, .int .i64 0, .int .i64 0, .bool false] 45)).heap[y5.heap.size]? = some (.cells #[.int .i64 0, .int .i64 0, .int .i64 0, .int .i64 0, .bool false] 45 (0, 0)) := heap_alloc_new y5 _
      have hsz : (y5.alloc (.cells #[.int .i64 0, .int .i64 0, .int .i64 0, .int .i64 0, .bool false] 45)).heap.size = y5.heap.size + 1 := by simp
      generalize y5.alloc (.cells #[.int .i64 0, .int .i64 0, .int .i64 0, .int .i64 0, .bool false] 45) = y6 at *
      obtain ⟨b9, hbn⟩ : ∃ b9, y5.heap.size = b9 := ⟨_, rfl⟩
      have hz2 : y6.heap[b9]? = some (.cells #[.int .i64 0, .int .i64 0, .int .i64 0, .int .i64 0, .bool false] 45 (0, 0)) := by rw [← hbn]; exact hz
      have hlo : w16.heap.size ≤ b9 := by rw [← hbn]; exact HBy5.out.size
      have HAb9 := hid (And.intro hz2 hlo)
      have HBy6 := hid (HBy5.out.trans (kk.mono HBy5.out.size))
      have HKy6 := hid (And.intro kk hbn)
      rw [hbn]
      refine hK.out _ _ (HS.out y6 HBy6.out) (fun hHeld => ?_)
      clear hK K kk hz hsz hbn hz2 hlo
      try simp only [Act.put, List.getElem_toArray, List.getElem_cons_zero, List.getElem_cons_succ, List.setIfInBounds_toArray, List.set_cons_zero, List.set_cons_succ]
      have hne : b8 ≠ b9 := by have := S.lt_of HAb8.out.1; have := HKy6.out.2; omega
      have hA2 := (HKy6.out.1.block _ (S.lt_of HAb8.out.1)).trans HAb8.out.1
      have hb8 : y6.heap[b8]? = some (.cells #[.int .i64 0, .int .i64 0, .int .i64 0, .int .i64 0, .bool false] 45 (0, 0)) := hA2
      have hb9 : y6.heap[b9]? = some (.cells #[.int .i64 0, .int .i64 0, .int .i64 0, .int .i64 0, .bool false] 45 (0, 0)) := HAb9.out.1
      have hne2 : b9 ≠ b8 := by omega
      have g9 : (y6.setRow b8 #[.int .i64 t0.i, .int .i64 t0.o, .int .i64 t0.d, .int .i64 t0.r, .bool false]).heap[b9]? = some (.cells #[.int .i64 0, .int .i64 0, .int .i64 0, .int .i64 0, .bool false] 45 (0, 0)) := (setRow_other y6 b8 b9 _ hne2).trans hb9
      have kb1 : Below w16.heap.size w16 (y6.setRow b8 #[.int .i64 t0.i, .int .i64 t0.o, .int .i64 t0.d, .int .i64 t0.r, .bool false]) := below_setRow HBy6.out HAb8.out.2 _
      have HFm := hid (show HB5 ((y6.setRow b8 #[.int .i64 t0.i, .int .i64 t0.o, .int .i64 t0.d, .int .i64 t0.r, .bool false]).setRow b9 #[.int .i64 t1.i, .int .i64 t1.o, .int .i64 t1.d, .int .i64 t1.r, .bool false]) b8 t0.i t0.o t0.d t0.r false ∧ HB5 ((y6.setRow b8 #[.int .i64 t0.i, .int .i64 t0.o, .int .i64 t0.d, .int .i64 t0.r, .bool false]).setRow b9 #[.int .i64 t1.i, .int .i64 t1.o, .int .i64 t1.d, .int .i64 t1.r, .bool false]) b9 t1.i t1.o t1.d t1.r false ∧ Below w16.heap.size w16 ((y6.setRow b8 #[.int .i64 t0.i, .int .i64 t0.o, .int .i64 t0.d, .int .i64 t0.r, .bool false]).setRow b9 #[.int .i64 t1.i, .int .i64 t1.o, .int .i64 t1.d, .int .i64 t1.r, .bool false]) from ⟨(setRow_other _ b9 b8 _ (Ne.symm hne2)).trans (setRow_heap y6 b8 _ _ _ _ hb8), setRow_heap _ b9 _ _ _ _ g9, below_setRow kb1 HAb9.out.2 _⟩)
      have s1 := HS.out _ kb1
      have s2 := HS.out _ HFm.out.2.2
      refine wpAnyH_ready (rs := [10]) (by kernel_rfl) (by simp) ?_
      refine AllReadyH.cons rfl (fun K hK => ?_) AllReadyH.nil
      refine step_store_row rfl 45 (.tmp 8) (.tmp 85) rfl b8 (#[.int .i64 t0.i, .int .i64 t0.o, .int .i64 t0.d, .int .i64 t0.r, .bool false]) (by simp [Act.eval]) (by simp [Act.eval]) 45 _ hb8 (by exact sizeSh) (by rfl) (by simp [Value.oneCell']) ?_
      refine hK.out _ _ s1 (fun hHeld => ?_)
      clear hK K
      refine wpAnyH_ready (rs := [11]) (by kernel_rfl) (by simp) ?_
      refine AllReadyH.cons rfl (fun K hK => ?_) AllReadyH.nil
      refine step_store_row rfl 45 (.tmp 9) (.tmp 89) rfl b9 (#[.int .i64 t1.i, .int .i64 t1.o, .int .i64 t1.d, .int .i64 t1.r, .bool false]) (by simp [Act.eval, Act.put]) (by simp [Act.eval, Act.put]) 45 _ g9 (by exact sizeSh) (by rfl) (by simp [Value.oneCell']) ?_
      refine hK.out _ _ s2 (fun hHeld => ?_)
      clear hK K
      refine wpAnyH_done (by kernel_rfl) ?_ _
      clear hHeld s1 s2 kb1 g9 hb8 hb9 hA2
      try simp only [Act.put, List.setIfInBounds_toArray, List.set_cons_zero, List.set_cons_succ]
      go_wp2
      go_meet
      case rel => exact ⟨b8, b9, rfl, rfl, HFm.out⟩
    refine AllReadyH.cons rfl (fun K hK => ?_) AllReadyH.nil
    · go_simp
      have kk : Below y0.heap.size y0 (y0.alloc (.cells #[.int .i64 0, .int .i64 0, .int .i64 0, .int .i64 0, .bool false] 45)) := (Below.refl _ _).alloc (Nat.le_refl _) _
      have hz : (y0.alloc (.cells #[.int .i64 0, .int .i64 0, .int .i64 0, .int .i64 0, .bool false] 45)).heap[y0.heap.size]? = some (.cells #[.int .i64 0, .int .i64 0, .int .i64 0, .int .i64 0, .bool false] 45 (0, 0)) := heap_alloc_new y0 _
      have hsz : (y0.alloc (.cells #[.int .i64 0, .int .i64 0, .int .i64 0, .int .i64 0, .bool false] 45)).heap.size = y0.heap.size + 1 := by simp
      generalize y0.alloc (.cells #[.int .i64 0, .int .i64 0, .int .i64 0, .int .i64 0, .bool false] 45) = y5 at *
      obtain ⟨b9, hbn⟩ : ∃ b9, y0.heap.size = b9 := ⟨_, rfl⟩
      have hz2 : y5.heap[b9]? = some (.cells #[.int .i64 0, .int .i64 0, .int .i64 0, .int .i64 0, .bool false] 45 (0, 0)) := by rw [← hbn]; exact hz
      have hlo : w16.heap.size ≤ b9 := by rw [← hbn]; exact HBy0.out.size
      have HAb9 := hid (And.intro hz2 hlo)
      have HBy5 := hid (HBy0.out.trans (kk.mono HBy0.out.size))
      have HKy5 := hid (And.intro kk hbn)
      rw [hbn]
      refine hK.out _ _ (HS.out y5 HBy5.out) (fun hHeld => ?_)
      clear hK K kk hz hsz hbn hz2 hlo
      try simp only [Act.put, List.getElem_toArray, List.getElem_cons_zero, List.getElem_cons_succ, List.setIfInBounds_toArray, List.set_cons_zero, List.set_cons_succ]
      refine wpAnyH_ready (rs := [8]) (by kernel_rfl) (by simp) ?_
      refine AllReadyH.cons rfl (fun K hK => ?_) AllReadyH.nil
      go_simp
      have kk : Below y5.heap.size y5 (y5.alloc (.cells #[.int .i64 0, .int .i64 0, .int .i64 0, .int .i64 0, .bool false] 45)) := (Below.refl _ _).alloc (Nat.le_refl _) _
      have hz : (y5.alloc (.cells #[.int .i64 0, .int .i64 0, .int .i64 0, .int .i64 0, .bool false] 45)).heap[y5.heap.size]? = some (.cells #[.int .i64 0, .int .i64 0, .int .i64 0, .int .i64 0, .bool false] 45 (0, 0)) := heap_alloc_new y5 _
      have hsz : (y5.alloc (.cells #[.int .i64 0, .int .i64 0, .int .i64 0, .int .i64 0, .bool false] 45)).heap.size = y5.heap.size + 1 := by simp
      generalize y5.alloc (.cells #[.int .i64 0, .int .i64 0, .int .i64 0, .int .i64 0, .bool false] 45) = y6 at *
      obtain ⟨b8, hbn⟩ : ∃ b8, y5.heap.size = b8 := ⟨_, rfl⟩
      have hz2 : y6.heap[b8]? = some (.cells #[.int .i64 0, .int .i64 0, .int .i64 0, .int .i64 0, .bool false] 45 (0, 0)) := by rw [← hbn]; exact hz
      have hlo : w16.heap.size ≤ b8 := by rw [← hbn]; exact HBy5.out.size
      have HAb8 := hid (And.intro hz2 hlo)
      have HBy6 := hid (HBy5.out.trans (kk.mono HBy5.out.size))
      have HKy6 := hid (And.intro kk hbn)
      rw [hbn]
      refine hK.out _ _ (HS.out y6 HBy6.out) (fun hHeld => ?_)
      clear hK K kk hz hsz hbn hz2 hlo
      try simp only [Act.put, List.getElem_toArray, List.getElem_cons_zero, List.getElem_cons_succ, List.setIfInBounds_toArray, List.set_cons_zero, List.set_cons_succ]
      have hne : b9 ≠ b8 := by have := S.lt_of HAb9.out.1; have := HKy6.out.2; omega
      have hA2 := (HKy6.out.1.block _ (S.lt_of HAb9.out.1)).trans HAb9.out.1
      have hb8 : y6.heap[b8]? = some (.cells #[.int .i64 0, .int .i64 0, .int .i64 0, .int .i64 0, .bool false] 45 (0, 0)) := HAb8.out.1
      have hb9 : y6.heap[b9]? = some (.cells #[.int .i64 0, .int .i64 0, .int .i64 0, .int .i64 0, .bool false] 45 (0, 0)) := hA2
      have hne2 : b9 ≠ b8 := by omega
      have g9 : (y6.setRow b8 #[.int .i64 t0.i, .int .i64 t0.o, .int .i64 t0.d, .int .i64 t0.r, .bool false]).heap[b9]? = some (.cells #[.int .i64 0, .int .i64 0, .int .i64 0, .int .i64 0, .bool false] 45 (0, 0)) := (setRow_other y6 b8 b9 _ hne2).trans hb9
      have kb1 : Below w16.heap.size w16 (y6.setRow b8 #[.int .i64 t0.i, .int .i64 t0.o, .int .i64 t0.d, .int .i64 t0.r, .bool false]) := below_setRow HBy6.out HAb8.out.2 _
      have HFm := hid (show HB5 ((y6.setRow b8 #[.int .i64 t0.i, .int .i64 t0.o, .int .i64 t0.d, .int .i64 t0.r, .bool false]).setRow b9 #[.int .i64 t1.i, .int .i64 t1.o, .int .i64 t1.d, .int .i64 t1.r, .bool false]) b8 t0.i t0.o t0.d t0.r false ∧ HB5 ((y6.setRow b8 #[.int .i64 t0.i, .int .i64 t0.o, .int .i64 t0.d, .int .i64 t0.r, .bool false]).setRow b9 #[.int .i64 t1.i, .int .i64 t1.o, .int .i64 t1.d, .int .i64 t1.r, .bool false]) b9 t1.i t1.o t1.d t1.r false ∧ Below w16.heap.size w16 ((y6.setRow b8 #[.int .i64 t0.i, .int .i64 t0.o, .int .i64 t0.d, .int .i64 t0.r, .bool false]).setRow b9 #[.int .i64 t1.i, .int .i64 t1.o, .int .i64 t1.d, .int .i64 t1.r, .bool false]) from ⟨(setRow_other _ b9 b8 _ (Ne.symm hne2)).trans (setRow_heap y6 b8 _ _ _ _ hb8), setRow_heap _ b9 _ _ _ _ g9, below_setRow kb1 HAb9.out.2 _⟩)
      have s1 := HS.out _ kb1
      have s2 := HS.out _ HFm.out.2.2
      refine wpAnyH_ready (rs := [10]) (by kernel_rfl) (by simp) ?_
      refine AllReadyH.cons rfl (fun K hK => ?_) AllReadyH.nil
      refine step_store_row rfl 45 (.tmp 8) (.tmp 85) rfl b8 (#[.int .i64 t0.i, .int .i64 t0.o, .int .i64 t0.d, .int .i64 t0.r, .bool false]) (by simp [Act.eval]) (by simp [Act.eval]) 45 _ hb8 (by exact sizeSh) (by rfl) (by simp [Value.oneCell']) ?_
      refine hK.out _ _ s1 (fun hHeld => ?_)
      clear hK K
      refine wpAnyH_ready (rs := [11]) (by kernel_rfl) (by simp) ?_
      refine AllReadyH.cons rfl (fun K hK => ?_) AllReadyH.nil
      refine step_store_row rfl 45 (.tmp 9) (.tmp 89) rfl b9 (#[.int .i64 t1.i, .int .i64 t1.o, .int .i64 t1.d, .int .i64 t1.r, .bool false]) (by simp [Act.eval, Act.put]) (by simp [Act.eval, Act.put]) 45 _ g9 (by exact sizeSh) (by rfl) (by simp [Value.oneCell']) ?_
      refine hK.out _ _ s2 (fun hHeld => ?_)
      clear hK K
      refine wpAnyH_done (by kernel_rfl) ?_ _
      clear hHeld s1 s2 kb1 g9 hb8 hb9 hA2
      try simp only [Act.put, List.setIfInBounds_toArray, List.set_cons_zero, List.set_cons_succ]
      go_wp2
      go_meet
      case rel => exact ⟨b8, b9, rfl, rfl, HFm.out⟩
  case rest =>
    obtain ⟨b8, b9, rfl, rfl, h8, h9, hbc⟩ := hcut
    obtain ⟨u0, u1, u2, u3, u4⟩ := h8.cells
    obtain ⟨v0, v1, v2, v3, v4⟩ := h9.cells
    have HBc := hid (And.intro h8 (And.intro h9 hbc))
    clear h8 h9 hbc
    obtain ⟨h, hh⟩ : ∃ h, t0.o - t0.i = h := ⟨_, rfl⟩
    have bh1 : -256 ≤ h := by omega
    have bh2 : h ≤ 256 := by omega
    obtain ⟨u, hu⟩ : ∃ u, t1.i - h = u := ⟨_, rfl⟩
    have bu1 : -256 ≤ u := by omega
    have bu2 : u ≤ 512 := by omega
    obtain ⟨M1, hM1⟩ : ∃ M1, max t0.i u = M1 := ⟨_, rfl⟩
    have eM1 : M1 = max t0.i (t1.i - (t0.o - t0.i)) := by rw [← hM1, hh, hu]
    have bm1 : 0 ≤ M1 := by omega
    have bm2 : M1 ≤ 512 := by omega
    obtain ⟨s1, hs1⟩ : ∃ s1, M1 + h = s1 := ⟨_, rfl⟩
    have bs1 : -256 ≤ s1 := by omega
    have bs2 : s1 ≤ 768 := by omega
    obtain ⟨s2, hs2⟩ : ∃ s2, s1 + t1.o = s2 := ⟨_, rfl⟩
    have bt1 : -256 ≤ s2 := by omega
    have bt2 : s2 ≤ 1024 := by omega
    obtain ⟨s3, hs3⟩ : ∃ s3, s2 - t1.i = s3 := ⟨_, rfl⟩
    have es3 : s3 = max t0.i (t1.i - (t0.o - t0.i)) + (t0.o - t0.i) + t1.o - t1.i := by rw [← eM1]; omega
    have bw1 : -512 ≤ s3 := by omega
    have bw2 : s3 ≤ 1024 := by omega
    obtain ⟨z1, hz1⟩ : ∃ z1, h + t1.d = z1 := ⟨_, rfl⟩
    have bz1 : -256 ≤ z1 := by omega
    have bz2 : z1 ≤ 512 := by omega
    obtain ⟨M2, hM2⟩ : ∃ M2, max t0.d z1 = M2 := ⟨_, rfl⟩
    have eM2 : M2 = max t0.d (t0.o - t0.i + t1.d) := by rw [← hM2, hh, hz1]
    have bn1 : 0 ≤ M2 := by omega
    have bn2 : M2 ≤ 512 := by omega
    obtain ⟨M3, hM3⟩ : ∃ M3, max t0.r t1.r = M3 := ⟨_, rfl⟩
    have eM3 : M3 = max t0.r t1.r := by rw [← hM3]
    have bo1 : 0 ≤ M3 := by omega
    have bo2 : M3 ≤ 128 := by omega
    obtain ⟨M4, hM4⟩ : ∃ M4, M3 + 1 = M4 := ⟨_, rfl⟩
    have bp1 : 0 ≤ M4 := by omega
    have bp2 : M4 ≤ 129 := by omega
    have J2 : jn t2 M1 s3 M2 M3 := by rw [eM1, es3, eM2, eM3]; exact HJJ.out.1
    have J3 : jn t3 M1 s3 M2 M4 := by rw [← hM4, eM1, es3, eM2, eM3]; exact HJJ.out.2
    have HJ2 := hid (And.intro J2 J3)
    have HM4 := hid hM4
    clear eM1 es3 eM2 eM3 J2 J3 hM4 HJJ
    go_upto_region 13 with fail
    clear hh hu hM1 hs1 hs2 hs3 hz1 hM2 hM3 u0 u1 u2 u3 u4 v0 v1 v2 v3 v4 x1 x2 x3 x4 x5 x6 x7 x8 y1 y2 y3 y4 y5 y6 y7 y8
    clear bh1 bh2 bu1 bu2 bs1 bs2 bt1 bt2 bz1 bz2
    obtain ⟨w20, hw20⟩ : ∃ w20, wc.alloc (.cells #[.int .i64 M1, .int .i64 s3, .int .i64 M2, .int .i64 M3, .bool false] 45) = w20 := ⟨_, rfl⟩
    rw [hw20]
    have h20 : w20.heap[wc.heap.size]? = some (.cells [Value.int .i64 M1, .int .i64 s3, .int .i64 M2, .int .i64 M3, .bool false].toArray 45 (0, 0)) := by rw [← hw20]; exact heap_alloc_new wc _
    have k20 : Below wc.heap.size wc w20 := by rw [← hw20]; exact (Below.refl _ _).alloc (Nat.le_refl _) _
    have H20 := hid (And.intro h20 (bch HBc.out.2.2 HBc.out.2.2.size k20))
    clear h20 k20 hw20
    have hS : ∀ wz, Below w20.heap.size w20 wz → (fun wz : World => wz.cell? ⟨g, 18, none⟩ = some (.string t2.nm) ∧ wz.cell? ⟨g, 19, none⟩ = some (.int .i64 t2.i) ∧ wz.cell? ⟨g, 20, none⟩ = some (.int .i64 t2.o) ∧ wz.cell? ⟨g, 21, none⟩ = some (.int .i64 t2.d) ∧ wz.cell? ⟨g, 22, none⟩ = some (.int .i64 t2.r) ∧ wz.cell? ⟨g, 23, none⟩ = some (.bool t2.nv) ∧ wz.cell? ⟨g, 24, none⟩ = some (.int .i64 t2.e) ∧ wz.cell? ⟨g, 25, none⟩ = some (.int .i64 t2.p.1) ∧ wz.cell? ⟨g, 26, none⟩ = some (.int .i64 t2.p.2) ∧ wz.cell? ⟨g, 27, none⟩ = some (.string t3.nm) ∧ wz.cell? ⟨g, 28, none⟩ = some (.int .i64 t3.i) ∧ wz.cell? ⟨g, 29, none⟩ = some (.int .i64 t3.o) ∧ wz.cell? ⟨g, 30, none⟩ = some (.int .i64 t3.d) ∧ wz.cell? ⟨g, 31, none⟩ = some (.int .i64 t3.r) ∧ wz.cell? ⟨g, 32, none⟩ = some (.bool t3.nv) ∧ wz.cell? ⟨g, 33, none⟩ = some (.int .i64 t3.e) ∧ wz.cell? ⟨g, 34, none⟩ = some (.int .i64 t3.p.1) ∧ wz.cell? ⟨g, 35, none⟩ = some (.int .i64 t3.p.2) ∧ wz.cell? ⟨wc.heap.size, 0, none⟩ = some (.int .i64 M1) ∧ wz.cell? ⟨wc.heap.size, 1, none⟩ = some (.int .i64 s3) ∧ wz.cell? ⟨wc.heap.size, 2, none⟩ = some (.int .i64 M2) ∧ wz.cell? ⟨wc.heap.size, 3, none⟩ = some (.int .i64 M3) ∧ wz.cell? ⟨wc.heap.size, 4, none⟩ = some (.bool false)) wz := fun wz hz => by
      have hv := (bch H20.out.2 H20.out.2.size hz).block g H16.out.2.1
      have hc : ∀ (j : Nat) (x : Value), (S.en tyc [t0, t1, t2, t3, t4])[j]? = some x → wz.cell? ⟨g, j, none⟩ = some x := fun j x hj => (World.cell?_of_block (w := w16) (a := ⟨g, j, none⟩) hv).trans (H16.out.2.2 j x hj)
      have hv2 := (hz.block _ (S.lt_of H20.out.1)).trans H20.out.1
      exact ⟨hc 18 _ rfl, hc 19 _ rfl, hc 20 _ rfl, hc 21 _ rfl, hc 22 _ rfl, hc 23 _ rfl, hc 24 _ rfl, hc 25 _ rfl, hc 26 _ rfl, hc 27 _ rfl, hc 28 _ rfl, hc 29 _ rfl, hc 30 _ rfl, hc 31 _ rfl, hc 32 _ rfl, hc 33 _ rfl, hc 34 _ rfl, hc 35 _ rfl, S.cell_of wz _ 0 _ 45 _ hv2 rfl, S.cell_of wz _ 1 _ 45 _ hv2 rfl, S.cell_of wz _ 2 _ 45 _ hv2 rfl, S.cell_of wz _ 3 _ 45 _ hv2 rfl, S.cell_of wz _ 4 _ 45 _ hv2 rfl⟩
    have HS3 := hid hS
    clear hS
    refine wp_region_held_drew (S := fun wz : World => wz.cell? ⟨g, 18, none⟩ = some (.string t2.nm) ∧ wz.cell? ⟨g, 19, none⟩ = some (.int .i64 t2.i) ∧ wz.cell? ⟨g, 20, none⟩ = some (.int .i64 t2.o) ∧ wz.cell? ⟨g, 21, none⟩ = some (.int .i64 t2.d) ∧ wz.cell? ⟨g, 22, none⟩ = some (.int .i64 t2.r) ∧ wz.cell? ⟨g, 23, none⟩ = some (.bool t2.nv) ∧ wz.cell? ⟨g, 24, none⟩ = some (.int .i64 t2.e) ∧ wz.cell? ⟨g, 25, none⟩ = some (.int .i64 t2.p.1) ∧ wz.cell? ⟨g, 26, none⟩ = some (.int .i64 t2.p.2) ∧ wz.cell? ⟨g, 27, none⟩ = some (.string t3.nm) ∧ wz.cell? ⟨g, 28, none⟩ = some (.int .i64 t3.i) ∧ wz.cell? ⟨g, 29, none⟩ = some (.int .i64 t3.o) ∧ wz.cell? ⟨g, 30, none⟩ = some (.int .i64 t3.d) ∧ wz.cell? ⟨g, 31, none⟩ = some (.int .i64 t3.r) ∧ wz.cell? ⟨g, 32, none⟩ = some (.bool t3.nv) ∧ wz.cell? ⟨g, 33, none⟩ = some (.int .i64 t3.e) ∧ wz.cell? ⟨g, 34, none⟩ = some (.int .i64 t3.p.1) ∧ wz.cell? ⟨g, 35, none⟩ = some (.int .i64 t3.p.2) ∧ wz.cell? ⟨wc.heap.size, 0, none⟩ = some (.int .i64 M1) ∧ wz.cell? ⟨wc.heap.size, 1, none⟩ = some (.int .i64 s3) ∧ wz.cell? ⟨wc.heap.size, 2, none⟩ = some (.int .i64 M2) ∧ wz.cell? ⟨wc.heap.size, 3, none⟩ = some (.int .i64 M3) ∧ wz.cell? ⟨wc.heap.size, 4, none⟩ = some (.bool false)) (by kernel_rfl) (HS3.out w20.drew (Below.refl _ _).drew) (fun hHeld => ?_)
    have HBy0 := hid (show Below w20.heap.size w20 w20.drew from (Below.refl _ _).drew)
    generalize w20.drew = y0 at *
    refine wpAnyH_take (i := 0) (v := ?_) rfl (by kernel_rfl) (by kernel_rfl) (by kernel_rfl) (fun c a w h => h) (Or.inl ⟨by rfl, ?_⟩) hHeld ?_
    rotate_left
    · (intro w hSw; (try dsimp only at hSw); go_simp; try with_reducible rfl)
    simp only [Act.put, List.getElem_toArray, List.getElem_cons_zero, List.getElem_cons_succ, List.setIfInBounds_toArray, List.set_cons_zero, List.set_cons_succ]
    refine wpAnyH_take (i := 1) (v := ?_) rfl (by kernel_rfl) (by kernel_rfl) (by kernel_rfl) (fun c a w h => h) (Or.inl ⟨by rfl, ?_⟩) hHeld ?_
    rotate_left
    · (intro w hSw; (try dsimp only at hSw); go_simp; try with_reducible rfl)
    simp only [Act.put, List.getElem_toArray, List.getElem_cons_zero, List.getElem_cons_succ, List.setIfInBounds_toArray, List.set_cons_zero, List.set_cons_succ]
    refine wpAnyH_take (i := 2) (v := ?_) rfl (by kernel_rfl) (by kernel_rfl) (by kernel_rfl) (fun c a w h => h) (Or.inl ⟨by rfl, ?_⟩) hHeld ?_
    rotate_left
    · (intro w hSw; (try dsimp only at hSw); go_simp; try with_reducible rfl)
    simp only [Act.put, List.getElem_toArray, List.getElem_cons_zero, List.getElem_cons_succ, List.setIfInBounds_toArray, List.set_cons_zero, List.set_cons_succ]
    refine wpAnyH_take (i := 3) (v := ?_) rfl (by kernel_rfl) (by kernel_rfl) (by kernel_rfl) (fun c a w h => h) (Or.inl ⟨by rfl, ?_⟩) hHeld ?_
    rotate_left
    · (intro w hSw; (try dsimp only at hSw); go_simp; try with_reducible rfl)
    simp only [Act.put, List.getElem_toArray, List.getElem_cons_zero, List.getElem_cons_succ, List.setIfInBounds_toArray, List.set_cons_zero, List.set_cons_succ]
    refine wpAnyH_ready (rs := [4]) (by kernel_rfl) (by simp) ?_
    refine AllReadyH.cons rfl (fun K hK => ?_) AllReadyH.nil
    go_simp
    refine (joins_any t2 M1 s3 M2 M3 HJ2.out.1 y0).mono ?_
    rintro e ya ⟨rfl, kk⟩
    have HBya := hid (bch HBy0.out HBy0.out.size kk)
    refine hK.out _ _ (HS3.out ya HBya.out) (fun hHeld => ?_)
    clear hK K kk
    try simp only [Act.put, List.getElem_toArray, List.getElem_cons_zero, List.getElem_cons_succ, List.setIfInBounds_toArray, List.set_cons_zero, List.set_cons_succ]
    refine wpAnyH_take (i := 5) (v := ?_) rfl (by kernel_rfl) (by kernel_rfl) (by kernel_rfl) (fun c a w h => h) (Or.inl ⟨by rfl, ?_⟩) hHeld ?_
    rotate_left
    · (intro w hSw; (try dsimp only at hSw); go_simp; try with_reducible rfl)
    simp only [Act.put, List.getElem_toArray, List.getElem_cons_zero, List.getElem_cons_succ, List.setIfInBounds_toArray, List.set_cons_zero, List.set_cons_succ]
    refine wpAnyH_take (i := 6) (v := ?_) rfl (by kernel_rfl) (by kernel_rfl) (by kernel_rfl) (fun c a w h => h) (Or.inl ⟨by rfl, ?_⟩) hHeld ?_
    rotate_left
    · (intro w hSw; (try dsimp only at hSw); go_simp; try with_reducible rfl)
    simp only [Act.put, List.getElem_toArray, List.getElem_cons_zero, List.getElem_cons_succ, List.setIfInBounds_toArray, List.set_cons_zero, List.set_cons_succ]
    refine wpAnyH_take (i := 7) (v := ?_) rfl (by kernel_rfl) (by kernel_rfl) (by kernel_rfl) (fun c a w h => h) (Or.inl ⟨by rfl, ?_⟩) hHeld ?_
    rotate_left
    · (intro w hSw; (try dsimp only at hSw); go_simp; try with_reducible rfl)
    simp only [Act.put, List.getElem_toArray, List.getElem_cons_zero, List.getElem_cons_succ, List.setIfInBounds_toArray, List.set_cons_zero, List.set_cons_succ]
    refine wpAnyH_take (i := 8) (v := ?_) rfl (by kernel_rfl) (by kernel_rfl) (by kernel_rfl) (fun c a w h => h) (Or.inl ⟨by rfl, ?_⟩) hHeld ?_
    rotate_left
    · (intro w hSw; (try dsimp only at hSw); go_simp; try with_reducible rfl)
    simp only [Act.put, List.getElem_toArray, List.getElem_cons_zero, List.getElem_cons_succ, List.setIfInBounds_toArray, List.set_cons_zero, List.set_cons_succ]
    refine wpAnyH_take (i := 9) (v := ?_) rfl (by kernel_rfl) (by kernel_rfl) (by kernel_rfl) (fun c a w h => h) (Or.inl ⟨by rfl, ?_⟩) hHeld ?_
    rotate_left
    · (intro w hSw; (try dsimp only at hSw); go_simp; try with_reducible rfl)
    simp only [Act.put, List.getElem_toArray, List.getElem_cons_zero, List.getElem_cons_succ, List.setIfInBounds_toArray, List.set_cons_zero, List.set_cons_succ]
    refine wpAnyH_take (i := 10) (v := ?_) rfl (by kernel_rfl) (by kernel_rfl) (by kernel_rfl) (fun c a w h => h) (Or.inl ⟨by rfl, ?_⟩) hHeld ?_
    rotate_left
    · (intro w hSw; (try dsimp only at hSw); go_simp; try with_reducible rfl)
    simp only [Act.put, List.getElem_toArray, List.getElem_cons_zero, List.getElem_cons_succ, List.setIfInBounds_toArray, List.set_cons_zero, List.set_cons_succ]
    refine wpAnyH_take (i := 11) (v := ?_) rfl (by kernel_rfl) (by kernel_rfl) (by kernel_rfl) (fun c a w h => h) (Or.inl ⟨by rfl, ?_⟩) hHeld ?_
    rotate_left
    · (intro w hSw; (try dsimp only at hSw); go_simp; try with_reducible rfl)
    simp only [Act.put, List.getElem_toArray, List.getElem_cons_zero, List.getElem_cons_succ, List.setIfInBounds_toArray, List.set_cons_zero, List.set_cons_succ]
    refine wpAnyH_take (i := 12) (v := ?_) rfl (by kernel_rfl) (by kernel_rfl) (by kernel_rfl) (fun c a w h => h) (Or.inl ⟨by rfl, ?_⟩) hHeld ?_
    rotate_left
    · (intro w hSw; (try dsimp only at hSw); go_simp; try with_reducible rfl)
    simp only [Act.put, List.getElem_toArray, List.getElem_cons_zero, List.getElem_cons_succ, List.setIfInBounds_toArray, List.set_cons_zero, List.set_cons_succ]
    refine wpAnyH_take (i := 13) (v := ?_) rfl (by kernel_rfl) (by kernel_rfl) (by kernel_rfl) (fun c a w h => h) (Or.inl ⟨by rfl, ?_⟩) hHeld ?_
    rotate_left
    · (intro w hSw; (try dsimp only at hSw); go_simp; try with_reducible rfl)
    simp only [Act.put, List.getElem_toArray, List.getElem_cons_zero, List.getElem_cons_succ, List.setIfInBounds_toArray, List.set_cons_zero, List.set_cons_succ]
    refine wpAnyH_take (i := 14) (v := ?_) rfl (by kernel_rfl) (by kernel_rfl) (by kernel_rfl) (fun c a w h => h) (Or.inl ⟨by rfl, ?_⟩) hHeld ?_
    rotate_left
    · (intro w hSw; (try dsimp only at hSw); go_simp; try with_reducible rfl)
    simp only [Act.put, List.getElem_toArray, List.getElem_cons_zero, List.getElem_cons_succ, List.setIfInBounds_toArray, List.set_cons_zero, List.set_cons_succ]
    refine wpAnyH_take (i := 15) (v := ?_) rfl (by kernel_rfl) (by kernel_rfl) (by kernel_rfl) (fun c a w h => h) (Or.inl ⟨by rfl, ?_⟩) hHeld ?_
    rotate_left
    · (intro w hSw; (try dsimp only at hSw); go_simp; try with_reducible rfl)
    simp only [Act.put, List.getElem_toArray, List.getElem_cons_zero, List.getElem_cons_succ, List.setIfInBounds_toArray, List.set_cons_zero, List.set_cons_succ]
    refine wpAnyH_take (i := 16) (v := ?_) rfl (by kernel_rfl) (by kernel_rfl) (by kernel_rfl) (fun c a w h => h) (Or.inl ⟨by rfl, ?_⟩) hHeld ?_
    rotate_left
    · (intro w hSw; (try dsimp only at hSw); go_simp; try with_reducible rfl)
    simp only [Act.put, List.getElem_toArray, List.getElem_cons_zero, List.getElem_cons_succ, List.setIfInBounds_toArray, List.set_cons_zero, List.set_cons_succ]
    have hM4 := HM4.out
    refine wpAnyH_take (i := 17) (v := ?_) rfl (by kernel_rfl) (by kernel_rfl) (by kernel_rfl) (fun c a w h => h) (Or.inl ⟨by rfl, ?_⟩) hHeld ?_
    rotate_left
    · (intro w hSw; (try dsimp only at hSw); go_simp; try with_reducible rfl)
    simp only [Act.put, List.getElem_toArray, List.getElem_cons_zero, List.getElem_cons_succ, List.setIfInBounds_toArray, List.set_cons_zero, List.set_cons_succ]
    clear hM4
    rw [show IntKind.i64.wrap M4 = M4 from wrap_in M4 (by omega) (by omega)]
    refine wpAnyH_take (i := 18) (v := ?_) rfl (by kernel_rfl) (by kernel_rfl) (by kernel_rfl) (fun c a w h => h) (Or.inl ⟨by rfl, ?_⟩) hHeld ?_
    rotate_left
    · (intro w hSw; (try dsimp only at hSw); go_simp; try with_reducible rfl)
    simp only [Act.put, List.getElem_toArray, List.getElem_cons_zero, List.getElem_cons_succ, List.setIfInBounds_toArray, List.set_cons_zero, List.set_cons_succ]
    refine wpAnyH_ready (rs := [19]) (by kernel_rfl) (by simp) ?_
    refine AllReadyH.cons rfl (fun K hK => ?_) AllReadyH.nil
    go_simp
    refine (joins_any t3 M1 s3 M2 M4 HJ2.out.2 ya).mono ?_
    rintro e yb ⟨rfl, kk⟩
    have HByb := hid (bch HBya.out HBya.out.size kk)
    refine hK.out _ _ (HS3.out yb HByb.out) (fun hHeld => ?_)
    clear hK K kk
    try simp only [Act.put, List.getElem_toArray, List.getElem_cons_zero, List.getElem_cons_succ, List.setIfInBounds_toArray, List.set_cons_zero, List.set_cons_succ]
    refine wpAnyH_take (i := 20) (v := ?_) rfl (by kernel_rfl) (by kernel_rfl) (by kernel_rfl) (fun c a w h => h) (Or.inl ⟨by rfl, ?_⟩) hHeld ?_
    rotate_left
    · (intro w hSw; (try dsimp only at hSw); go_simp; try with_reducible rfl)
    simp only [Act.put, List.getElem_toArray, List.getElem_cons_zero, List.getElem_cons_succ, List.setIfInBounds_toArray, List.set_cons_zero, List.set_cons_succ]
    refine wpAnyH_take (i := 21) (v := ?_) rfl (by kernel_rfl) (by kernel_rfl) (by kernel_rfl) (fun c a w h => h) (Or.inl ⟨by rfl, ?_⟩) hHeld ?_
    rotate_left
    · (intro w hSw; (try dsimp only at hSw); go_simp; try with_reducible rfl)
    simp only [Act.put, List.getElem_toArray, List.getElem_cons_zero, List.getElem_cons_succ, List.setIfInBounds_toArray, List.set_cons_zero, List.set_cons_succ]
    refine wpAnyH_ready (rs := [22]) (by kernel_rfl) (by simp) ?_
    refine AllReadyH.cons rfl (fun K hK => ?_) AllReadyH.nil
    go_simp
    refine (known_any yb).mono ?_
    rintro e yc ⟨rfl, kk⟩
    have HByc := hid (bch HByb.out HByb.out.size kk)
    refine hK.out _ _ (HS3.out yc HByc.out) (fun hHeld => ?_)
    clear hK K kk
    try simp only [Act.put, List.getElem_toArray, List.getElem_cons_zero, List.getElem_cons_succ, List.setIfInBounds_toArray, List.set_cons_zero, List.set_cons_succ]
    refine wpAnyH_take (i := 23) (v := ?_) rfl (by kernel_rfl) (by kernel_rfl) (by kernel_rfl) (fun c a w h => h) (Or.inl ⟨by rfl, ?_⟩) hHeld ?_
    rotate_left
    · (intro w hSw; (try dsimp only at hSw); go_simp; try with_reducible rfl)
    simp only [Act.put, List.getElem_toArray, List.getElem_cons_zero, List.getElem_cons_succ, List.setIfInBounds_toArray, List.set_cons_zero, List.set_cons_succ]
    refine wpAnyH_take (i := 24) (v := ?_) rfl (by kernel_rfl) (by kernel_rfl) (by kernel_rfl) (fun c a w h => h) (Or.inl ⟨by rfl, ?_⟩) hHeld ?_
    rotate_left
    · (intro w hSw; (try dsimp only at hSw); go_simp; try with_reducible rfl)
    simp only [Act.put, List.getElem_toArray, List.getElem_cons_zero, List.getElem_cons_succ, List.setIfInBounds_toArray, List.set_cons_zero, List.set_cons_succ]
    refine wpAnyH_done (by kernel_rfl) ?_ _
    clear hHeld
    try simp only [Act.put, List.setIfInBounds_toArray, List.set_cons_zero, List.set_cons_succ]
    have HE := hid (bch H16.out.1 H16.out.1.size (bch H20.out.2 H20.out.2.size HByc.out))
    go_wp2
    go_ret
    exact ⟨rfl, HE.out⟩
end Go.Proofs.YtlilefhmohkfkaaGreatDoor.E
