import Derived.Test.YtlljelfplffglaaDoorHDg
import Derived.Test.YtlljelfplffglaaDoorHDropT
/-! ShotSums: the walk. -/
namespace Go.Proofs.YtlljelfplffglaaDoor.H
open Go.RowKit
open Go.Proofs
open Go.Proofs.YtlljelfplffglaaDoor.K
set_option linter.unusedVariables false
set_option linter.unusedSimpArgs false
set_option maxHeartbeats 4000000
set_option maxRecDepth 100000
theorem xor_mul (n a b : Nat) : 2 ^ n * (a ^^^ b) = (2 ^ n * a) ^^^ (2 ^ n * b) := by
  have h := Nat.shiftLeft_xor_distrib (a := a) (b := b) (i := n)
  simp only [Nat.shiftLeft_eq] at h
  rw [Nat.mul_comm, h, Nat.mul_comm a, Nat.mul_comm b]
theorem numL_setx : ∀ (l : List UInt8) (k : Nat) (hk : k < l.length) (x : UInt8), numL (l.set k (l[k] ^^^ x)) = numL l ^^^ (2 ^ (8 * k) * x.toNat)
  | b :: l, 0, hk, x => by
    have hb := u8lt b
    have hx : (b ^^^ x).toNat = b.toNat ^^^ x.toNat := UInt8.toNat_xor b x
    have hlt := u8lt (b ^^^ x)
    simp only [List.getElem_cons_zero, List.set_cons_zero, numL, Nat.mul_zero, Nat.pow_zero, Nat.one_mul]
    rw [add_xor 8 (numL l) (b ^^^ x).toNat (by omega), add_xor 8 (numL l) b.toNat (by omega), hx, Nat.xor_assoc]
  | b :: l, k + 1, hk, x => by
    have hb := u8lt b
    have ih := numL_setx l k (by simpa using hk) x
    simp only [List.getElem_cons_succ, List.set_cons_succ, numL]
    rw [ih, add_xor 8 (numL l ^^^ (2 ^ (8 * k) * x.toNat)) b.toNat (by omega), add_xor 8 (numL l) b.toNat (by omega), xor_mul]
    have e : 2 ^ 8 * (2 ^ (8 * k) * x.toNat) = 2 ^ (8 * (k + 1)) * x.toNat := by rw [← Nat.mul_assoc, ← Nat.pow_add]; congr 2; omega
    rw [e, Nat.xor_assoc, Nat.xor_assoc, Nat.xor_comm (2 ^ (8 * (k + 1)) * x.toNat)]
/-- One byte turned: another sum. -/
theorem crc_setx (l : List UInt8) (k : Nat) (hk : k < l.length) (x : UInt8) (hx : x ≠ 0) : crc (l.set k (l[k] ^^^ x)) ≠ crc l := by
  have h := crc_turned l (l.set k (l[k] ^^^ x)) (by rw [List.length_set]) (8 * k) x.toNat (by have := x.toNat_lt; omega) (by omega) (numL_setx l k hk x)
  exact fun e => (h.2 (fun e0 => hx (UInt8.toNat_inj.1 e0))) e.symm
theorem dg_turn (a b c d e : Int) (s : List UInt8) (ts : List Tn) (k : Nat) (hk : k < s.length) (x y o : UInt8) (hx : x ≠ 0) (ho : s[k]? = some o) (hy : y = o ^^^ x) : crc (dgB a b c d e (s.set k y) ts) ≠ crc (dgB a b c d e s ts) := by
  have hw : (ws [a, b, c, d, e, (s.length : Int)]).length = 24 := by rw [ws_len]; rfl
  have h1 : dgB a b c d e (s.set k y) ts = (dgB a b c d e s ts).set (24 + k) y := by
    unfold dgB
    rw [List.length_set, List.set_append_right _ _ (by omega), hw, show 24 + k - 24 = k by omega, List.set_append_left _ _ hk]
  have hl : 24 + k < (dgB a b c d e s ts).length := by unfold dgB; rw [List.length_append, List.length_append, hw]; omega
  have h3 : (dgB a b c d e s ts)[24 + k]? = some o := by
    unfold dgB
    rw [List.getElem?_append_right (by omega), hw, show 24 + k - 24 = k by omega, List.getElem?_append_left hk, ho]
  have h2 : (dgB a b c d e s ts)[24 + k] = o := by rw [List.getElem?_eq_getElem hl] at h3; exact Option.some.inj h3
  rw [h1, hy, ← h2]
  exact crc_setx _ _ hl x hx
def zT : Value := .agg #[.int .i64 0, .int .u16 0, .int .u8 0]
theorem infoT : (Tryd.prog.info? 38).map (fun i => (i.zero, i.size, i.bytes)) = some (some zT, 3, 16) := by kernel_rfl
theorem oneT (l : List Tn) : ∀ u ∈ S.en eT l, u.oneCell' = true := by
  intro u hu
  simp only [S.en, List.mem_flatMap] at hu
  obtain ⟨t, _, ht⟩ := hu
  simp only [eT, List.mem_cons, List.not_mem_nil, or_false] at ht
  rcases ht with rfl | rfl | rfl <;> rfl
theorem xor_u8 (a b : UInt8) : bits .xor .u8 (a.toNat : Int) (b.toNat : Int) = ((a ^^^ b).toNat : Int) := by
  rw [UInt8.toNat_xor]; exact xor8 _ _ a.toNat_lt b.toNat_lt
theorem sums_walk (z0 z1 z2 z3 z4 : Int) (vs vt : Value) (sc : List UInt8) (ts : List Tn) (hl1 : sc.length + 4096 ≤ room) (hl2 : ts.length * 16 + 4096 ≤ room) (at_ : Int) (hat : (Lit.int .i64 at_).wf = true) (bb : UInt8) (W : World) (hs : Sl W vs sc) (ht : S.Ls eT 3 W vt ts) (hTb : Tab W) :
    Calls Tryd.prog 3 #[.agg #[.int .i64 z0, .int .i64 z1, .int .i64 z2, .int .i64 z3, .int .i64 z4, vs, vt], .int .i64 at_, .int .u8 (bb.toNat : Int)] W fun r w' => r = .returned (.bool true) ∧ Below W.heap.size W w' := by
  obtain ⟨ps, cs, rfl, _⟩ := hs.ex
  obtain ⟨pt, ct, rfl, _, _⟩ := ht.ex
  have HG := hid (And.intro hs (And.intro ht hTb))
  unfold room at hl1 hl2
  clear hs ht hTb
  obtain ⟨W0, hW0⟩ : ∃ W0, (W.alloc (.cells #[.int .i64 z0, .int .i64 z1, .int .i64 z2, .int .i64 z3, .int .i64 z4, .slice ps sc.length cs, .slice pt ts.length ct] 27)).alloc (.cells #[.int .i64 z0, .int .i64 z1, .int .i64 z2, .int .i64 z3, .int .i64 z4, .slice ps sc.length cs, .slice pt ts.length ct] 27) = W0 := ⟨_, rfl⟩
  have e0 : W0.heap[W.heap.size]? = some (.cells #[.int .i64 z0, .int .i64 z1, .int .i64 z2, .int .i64 z3, .int .i64 z4, .slice ps sc.length cs, .slice pt ts.length ct] 27 (0, 0)) := by rw [← hW0]; exact (Below.heap_alloc _ _ _ (by simp)).trans (heap_alloc_new W _)
  have e1 : W0.heap[W.heap.size + 1]? = some (.cells #[.int .i64 z0, .int .i64 z1, .int .i64 z2, .int .i64 z3, .int .i64 z4, .slice ps sc.length cs, .slice pt ts.length ct] 27 (0, 0)) := by rw [← hW0]; exact heap_alloc2_new W _ _
  have hb0 : Below W.heap.size W W0 := by rw [← hW0]; exact ((Below.refl _ W).alloc (Nat.le_refl _) _).alloc (by simp) _
  have s0 : W0.heap.size = W.heap.size + 2 := by rw [← hW0]; simp
  have hbz : Below W0.heap.size W0 (W0.alloc (.cells #[] 5)) := (Below.refl _ _).alloc (Nat.le_refl _) _
  have hr0 : Row (W0.alloc (.cells #[] 5)) W0.heap.size (.slice (some ⟨W0.heap.size, 0, none⟩) 0 0) [] := row_of_alloc W0 W0.heap.size (Nat.le_refl _) [] (by simp)
  have hs0 := (HG.out.1.below hb0).below hbz
  have a5 : (W0.alloc (.cells #[] 5)).cell? ⟨W.heap.size, 5, none⟩ = some (.slice ps sc.length cs) := cell_of_any _ _ 5 _ _ _ ((hbz.block _ (by omega)).trans e0)
  have HH := hid (And.intro hr0 (And.intro hs0 hbz))
  have HB0 := hid hb0
  have HE0 := hid (And.intro e0 e1)
  have HS0 := hid s0
  clear hr0 hs0 hbz hb0 e0 e1 s0
  go_enter Tryd.func3, Tryd.ntmps3
  go_upto_region 2 with fail
  try rw [hW0]
  clear hW0
  obtain ⟨B, hB⟩ : ∃ B, B = W.heap.size := ⟨_, rfl⟩
  have HBB := hid hB
  rw [← hB] at HE0 HS0 a5
  try rw [← hB]
  clear hB
  go_wp2_with (first | (at_builtin; refine wpList_append_bytes _ rfl _ _ rfl W0.heap.size _ [] rfl HH.out.1 _ sc rfl HH.out.2.1 (by unfold room; simp; omega) HH.out.2.2.size ?_))
  intro v1 w1 hr1' hg1
  have hr1 : Row w1 W0.heap.size v1 sc := by simpa using hr1'
  have hb1 : Below W0.heap.size W0 w1 := hg1.belowAll (fun g e => (HH.out.1.lt g e).1) HH.out.2.2 (Nat.le_refl _)
  obtain ⟨p1, c1, rfl⟩ := own_val hr1
  have e1 := (hb1.block _ (by have := HS0.out; omega)).trans HE0.out.2
  have e0 := (hb1.block _ (by have := HS0.out; omega)).trans HE0.out.1
  have k5 : w1.cell? ⟨B + 1, 5, none⟩ = some (.slice ps sc.length cs) := cell_of_any _ _ 5 _ _ _ e1
  have f5 := frozen_of_row w1 (B + 1) 5 _ _ e1
  obtain ⟨W1, hW1⟩ : ∃ W1, w1.setCell ⟨B + 1, 5, none⟩ (.slice p1 sc.length c1) = W1 := ⟨_, rfl⟩
  have g1 : W1.heap[B + 1]? = some (.cells #[.int .i64 z0, .int .i64 z1, .int .i64 z2, .int .i64 z3, .int .i64 z4, .slice p1 sc.length c1, .slice pt ts.length ct] 27 (0, 0)) := by rw [← hW1]; exact heap_setCell_same w1 (B + 1) 5 _ _ _ e1
  have g0 : W1.heap[B]? = some (.cells #[.int .i64 z0, .int .i64 z1, .int .i64 z2, .int .i64 z3, .int .i64 z4, .slice ps sc.length cs, .slice pt ts.length ct] 27 (0, 0)) := by rw [← hW1, heap_setCell_other w1 ⟨B + 1, 5, none⟩ B _ (by simp)]; exact e0
  have hsz1 : w1.heap.size = W1.heap.size := by rw [← hW1]; simp
  have hr2 : Row W1 (B + 2) (.slice p1 sc.length c1) sc := by
    rw [← hW1]
    exact (hr1.kept fun g e _ => heap_setCell_other w1 ⟨B + 1, 5, none⟩ g _ (by have := (hr1.lt g e).1; have := HS0.out; simp; omega)).mono (by have := HS0.out; omega)
  have hbW1 : Below B W W1 := by
    have hB0 := HB0.out
    rw [← HBB.out] at hB0
    have hh : Below B W w1 := hB0.trans (hb1.mono (by have := HS0.out; omega))
    rw [← hW1]; exact hh.setCell (p := ⟨B + 1, 5, none⟩) (by simp) _
  have hbz : Below W1.heap.size W1 (W1.alloc (.cells #[] 38)) := (Below.refl _ _).alloc (Nat.le_refl _) _
  have hrw : (W1.alloc (.cells #[] 38)).ownsRow W1.heap.size 38 3 (.slice (some ⟨W1.heap.size, 0, none⟩) 0 0) 0 [] :=
    ⟨rfl, .inr ⟨W1.heap.size, 0, #[], rfl, Nat.le_refl _, heap_alloc_new W1 _, Nat.le_refl _, by decide, rfl, rfl⟩⟩
  have hcs := S.Ls.cs hT3 (by decide) oneT ((HG.out.2.1.below (by rw [HBB.out] at hbW1; exact hbW1)).below hbz)
  have hsz2 : B + 2 ≤ W1.heap.size := by rw [← hsz1]; have := hb1.size; have := HS0.out; omega
  have a6 : (W1.alloc (.cells #[] 38)).cell? ⟨B, 6, none⟩ = some (.slice pt ts.length ct) := cell_of_any _ _ 6 _ _ _ ((hbz.block _ (by omega)).trans g0)
  have HH := hid (And.intro hrw (And.intro hcs hbz))
  have HR := hid hr2
  have HBW := hid hbW1
  have HGG := hid (And.intro g0 g1)
  have HSZ := hid hsz2
  clear hr1' hr1 hg1 hb1 e0 e1 g0 g1 hsz1 hr2 hbW1 hbz hrw hcs hsz2 a5 HB0 HE0 HS0
  go_upto_region 3 with fail
  try rw [hW1]
  clear hW1 k5 f5
  go_wp2_with (first | (at_builtin; refine S.wpList_append_row _ rfl _ _ 25 38 zT 3 16 Tryd.underlying25 infoT rfl (by decide) rfl W1.heap.size _ 0 [] rfl HH.out.1 _ ts.length (S.en eT ts) rfl HH.out.2.1 (by unfold S.room; omega) (by unfold maxLen; omega) HH.out.2.2.size ?_))
  intro v2 w2 hr2' hg2
  have hr2 : w2.ownsRow W1.heap.size 38 3 v2 ts.length (S.en eT ts) := by simpa using hr2'
  have hb2 : Below W1.heap.size W1 w2 := HH.out.2.2.trans (hg2.below (fun g e => (HH.out.1.lt g e).1) HH.out.2.2.size)
  obtain ⟨p2, c2, rfl⟩ := own_val hr2
  have e1 := (hb2.block _ (by have := HSZ.out; omega)).trans HGG.out.2
  have e0 := (hb2.block _ (by have := HSZ.out; omega)).trans HGG.out.1
  have k6 : w2.cell? ⟨B + 1, 6, none⟩ = some (.slice pt ts.length ct) := cell_of_any _ _ 6 _ _ _ e1
  have f6 := frozen_of_row w2 (B + 1) 6 _ _ e1
  obtain ⟨W2, hW2⟩ : ∃ W2, w2.setCell ⟨B + 1, 6, none⟩ (.slice p2 ts.length c2) = W2 := ⟨_, rfl⟩
  have g1 : W2.heap[B + 1]? = some (.cells #[.int .i64 z0, .int .i64 z1, .int .i64 z2, .int .i64 z3, .int .i64 z4, .slice p1 sc.length c1, .slice p2 ts.length c2] 27 (0, 0)) := by rw [← hW2]; exact heap_setCell_same w2 (B + 1) 6 _ _ _ e1
  have g0 : W2.heap[B]? = some (.cells #[.int .i64 z0, .int .i64 z1, .int .i64 z2, .int .i64 z3, .int .i64 z4, .slice ps sc.length cs, .slice pt ts.length ct] 27 (0, 0)) := by rw [← hW2, heap_setCell_other w2 ⟨B + 1, 6, none⟩ B _ (by simp)]; exact e0
  have hRt : W2.ownsRow W1.heap.size 38 3 (.slice p2 ts.length c2) ts.length (S.en eT ts) := by
    rw [← hW2]
    exact S.own_kept hr2 fun g e _ => heap_setCell_other w2 ⟨B + 1, 6, none⟩ g _ (by have := (hr2.lt g e).1; have := HSZ.out; simp; omega)
  have hRs : Row W2 (B + 2) (.slice p1 sc.length c1) sc := by
    rw [← hW2]
    exact (HR.out.below hb2).kept fun g e _ => heap_setCell_other w2 ⟨B + 1, 6, none⟩ g _ (by have := (HR.out.lt g e).1; simp; omega)
  have hlt1 : ∀ g, (Value.slice p1 sc.length c1).ownBlock = some g → g < W1.heap.size := fun g e => (HR.out.lt g e).2
  have hbW2 : Below B W W2 := by
    have hh : Below B W w2 := HBW.out.trans (hb2.mono (by have := HSZ.out; omega))
    rw [← hW2]; exact hh.setCell (p := ⟨B + 1, 6, none⟩) (by simp) _
  have hsz : B + 2 ≤ W2.heap.size := (Array.getElem?_eq_some_iff.1 g1).1
  have HR := hid (And.intro hRs (And.intro hRt hlt1))
  have HBW := hid (And.intro hbW2 hsz)
  have HGG := hid (And.intro g0 g1)
  have q0 : W2.cell? ⟨B, 0, none⟩ = some (.int .i64 z0) := cell_of_any _ _ 0 _ _ _ g0
  have q1 : W2.cell? ⟨B, 1, none⟩ = some (.int .i64 z1) := cell_of_any _ _ 1 _ _ _ g0
  have q2 : W2.cell? ⟨B, 2, none⟩ = some (.int .i64 z2) := cell_of_any _ _ 2 _ _ _ g0
  have q3 : W2.cell? ⟨B, 3, none⟩ = some (.int .i64 z3) := cell_of_any _ _ 3 _ _ _ g0
  have q4 : W2.cell? ⟨B, 4, none⟩ = some (.int .i64 z4) := cell_of_any _ _ 4 _ _ _ g0
  have q5 : W2.cell? ⟨B, 5, none⟩ = some (.slice ps sc.length cs) := cell_of_any _ _ 5 _ _ _ g0
  have q6 : W2.cell? ⟨B, 6, none⟩ = some (.slice pt ts.length ct) := cell_of_any _ _ 6 _ _ _ g0
  have hbW : Below W.heap.size W W2 := by rw [HBB.out] at hbW2; exact hbW2
  have hdg := digest_any z0 z1 z2 z3 z4 _ _ sc ts (by unfold room; omega) (by unfold room; omega) W2 (HG.out.1.below hbW) (HG.out.2.1.below hbW) (tab_bel HG.out.2.2 hbW)
  obtain ⟨DD, hDD⟩ : ∃ DD, crc (dgB z0 z1 z2 z3 z4 sc ts) = DD := ⟨_, rfl⟩
  rw [hDD] at hdg
  have HDD := hid hDD
  clear hr2' hr2 hg2 hb2 e0 e1 g0 g1 hRt hRs hlt1 hbW2 hsz a6 HH HSZ hbW hDD
  go_upto_region 4 with fail
  try rw [hW2]
  clear hW2 k6 f6
  go_wp2_with fail
  refine hdg.mono ?_
  rintro e w3 ⟨rfl, hb3⟩
  have HB3 := hid hb3
  clear hb3 hdg q0 q1 q2 q3 q4 q5 q6
  go_wp2_with fail
  refine (fixed_any w3).mono ?_
  rintro e w4 ⟨rfl, hb4⟩
  have hb24 := HB3.out.trans (hb4.mono HB3.out.size)
  have g1 := (hb24.block _ (by have := HBW.out.2; omega)).trans HGG.out.2
  have q0 : w4.cell? ⟨B + 1, 0, none⟩ = some (.int .i64 z0) := cell_of_any _ _ 0 _ _ _ g1
  have q1 : w4.cell? ⟨B + 1, 1, none⟩ = some (.int .i64 z1) := cell_of_any _ _ 1 _ _ _ g1
  have q2 : w4.cell? ⟨B + 1, 2, none⟩ = some (.int .i64 z2) := cell_of_any _ _ 2 _ _ _ g1
  have q3 : w4.cell? ⟨B + 1, 3, none⟩ = some (.int .i64 z3) := cell_of_any _ _ 3 _ _ _ g1
  have q4 : w4.cell? ⟨B + 1, 4, none⟩ = some (.int .i64 z4) := cell_of_any _ _ 4 _ _ _ g1
  have q5 : w4.cell? ⟨B + 1, 5, none⟩ = some (.slice p1 sc.length c1) := cell_of_any _ _ 5 _ _ _ g1
  have q6 : w4.cell? ⟨B + 1, 6, none⟩ = some (.slice p2 ts.length c2) := cell_of_any _ _ 6 _ _ _ g1
  have hRs := HR.out.1.below hb24
  have hRt := S.own_kept HR.out.2.1 (fun g _ hg => hb24.block g hg)
  have hbW4 : Below B W w4 := HBW.out.1.trans (hb24.mono (by have := HBW.out.2; omega))
  have hbW : Below W.heap.size W w4 := by rw [HBB.out] at hbW4; exact hbW4
  have hdg := digest_any z0 z1 z2 z3 z4 _ _ sc ts (by unfold room; omega) (by unfold room; omega) w4 hRs.sl (S.own_sl hT3 hRt) (tab_bel HG.out.2.2 hbW)
  rw [HDD.out] at hdg
  have HK := hid (And.intro hRs (And.intro hRt (And.intro g1 hbW4)))
  have HZ4 := hid hb24.size
  clear hb4 hb24 g1 hRs hRt hbW4 hbW HB3
  go_wp2_with fail
  refine hdg.mono ?_
  rintro e w5 ⟨rfl, hb5⟩
  have g1 := (hb5.block _ (by have := HBW.out.2; have := HZ4.out; omega)).trans HK.out.2.2.1
  have q5' : w5.cell? ⟨B + 1, 5, none⟩ = some (.slice p1 sc.length c1) := cell_of_any _ _ 5 _ _ _ g1
  have hRs := HK.out.1.below hb5
  have hRt := S.own_kept HK.out.2.1 (fun g _ hg => hb5.block g hg)
  have hbW5 : Below B W w5 := HK.out.2.2.2.trans (hb5.mono (by have := HBW.out.2; have := HZ4.out; omega))
  have hbW : Below W.heap.size W w5 := by rw [HBB.out] at hbW5; exact hbW5
  have HK := hid (And.intro hRs (And.intro hRt (And.intro g1 (And.intro hbW5 hbW))))
  clear hb5 hdg g1 hRs hRt hbW5 hbW q0 q1 q2 q3 q4 q5 q6
  by_cases hz : sc.length = 0
  · have i0 : (sc.length : Int) = 0 := by omega
    have q5 : w5.cell? ⟨B + 1, 5, none⟩ = some (.slice p1 0 c1) := by rw [hz] at q5'; exact q5'
    clear q5'
    go_wp2
    go_ret
    exact ⟨rfl, HK.out.2.2.2.2⟩
  have i0 : ¬ (sc.length : Int) = 0 := by omega
  have i00 : ((sc.length : Int) == 0) = false := by simpa using i0
  by_cases hbz : bb = 0
  · subst hbz
    have j0 : (((0 : UInt8).toNat : Nat) : Int) = 0 := rfl
    go_wp2
    go_ret
    exact ⟨rfl, HK.out.2.2.2.2⟩
  have j0 : ¬ (bb.toNat : Int) = 0 := fun h => hbz (UInt8.toNat_inj.1 (by simpa using h))
  have j00 : ((bb.toNat : Int) == 0) = false := by simpa using j0
  have hpos : (0 : Int) < (sc.length : Int) := by omega
  obtain ⟨m, hm⟩ : ∃ m, at_.tmod (sc.length : Int) = m := ⟨_, rfl⟩
  have hma : m < (sc.length : Int) ∧ -(sc.length : Int) < m := by
    rw [← hm]
    have h1 := Int.tmod_lt_of_pos at_ hpos
    have h2 := Int.tmod_lt_of_pos (-at_) hpos
    rw [Int.neg_tmod] at h2
    omega
  obtain ⟨K, hKn⟩ : ∃ K : Nat, (K : Int) = if m < 0 then -m else m := ⟨(if m < 0 then -m else m).toNat, by split <;> omega⟩
  have hKl : K < sc.length := by split at hKn <;> omega
  have y0 : IntKind.i64.wrap m = m := by rw [IntKind.wrap_i64]; omega
  have HKL := hid hKl
  obtain ⟨g, hg⟩ : ∃ g, p1 = some ⟨g, 0, none⟩ := by
    obtain ⟨g, cap, e⟩ := own_pos HK.out.1 (by omega)
    simp only [Value.slice.injEq] at e
    exact ⟨g, e.1⟩
  subst hg
  have hgl := HK.out.1.lt g rfl
  have hfz := row_fz HK.out.1 K
  obtain ⟨old, hold⟩ : ∃ old, sc[K]? = some old := ⟨_, List.getElem?_eq_getElem hKl⟩
  have hck : w5.cell? ⟨g, K, none⟩ = some (.int .u8 (old.toNat : Int)) := rowAt HK.out.1 K old hold
  have hxr := xor_u8 old bb
  obtain ⟨nw, hnw⟩ : ∃ nw, old ^^^ bb = nw := ⟨_, rfl⟩
  rw [hnw] at hxr
  have hst := row_store HK.out.1 K hKl nw
  have htn := dg_turn z0 z1 z2 z3 z4 sc ts K hKl bb nw old hbz hold hnw.symm
  rw [HDD.out] at htn
  obtain ⟨w6, hw6⟩ : ∃ w6, w5.drew.setCell ⟨g, K, none⟩ (.int .u8 (nw.toNat : Int)) = w6 := ⟨_, rfl⟩
  have hst6 : Row w6 (B + 2) (.slice (some ⟨g, 0, none⟩) sc.length c1) (sc.set K nw) := by rw [← hw6]; exact hst
  have hot : ∀ k, k ≠ g → w6.heap[k]? = w5.heap[k]? := fun k hk => by rw [← hw6]; exact heap_setCell_other w5.drew ⟨g, K, none⟩ k _ hk
  have g1 := (hot _ (by omega)).trans HK.out.2.2.1
  have hrt := S.own_kept HK.out.2.1 (fun k e hk => hot k (by
    have h1 := (HK.out.2.1.lt k e).1
    have h2 := HR.out.2.2 g rfl
    omega))
  have hbW6 : Below B W w6 := by rw [← hw6]; exact (show Below B W w5.drew from ⟨HK.out.2.2.2.1.os, HK.out.2.2.2.1.tape, HK.out.2.2.2.1.output, HK.out.2.2.2.1.size, HK.out.2.2.2.1.block⟩).setCell (p := ⟨g, K, none⟩) (by show B ≤ g; omega) _
  have hbW : Below W.heap.size W w6 := by rw [HBB.out] at hbW6; exact hbW6
  have q0 : w6.cell? ⟨B + 1, 0, none⟩ = some (.int .i64 z0) := cell_of_any _ _ 0 _ _ _ g1
  have q1 : w6.cell? ⟨B + 1, 1, none⟩ = some (.int .i64 z1) := cell_of_any _ _ 1 _ _ _ g1
  have q2 : w6.cell? ⟨B + 1, 2, none⟩ = some (.int .i64 z2) := cell_of_any _ _ 2 _ _ _ g1
  have q3 : w6.cell? ⟨B + 1, 3, none⟩ = some (.int .i64 z3) := cell_of_any _ _ 3 _ _ _ g1
  have q4 : w6.cell? ⟨B + 1, 4, none⟩ = some (.int .i64 z4) := cell_of_any _ _ 4 _ _ _ g1
  have q5 : w6.cell? ⟨B + 1, 5, none⟩ = some (.slice (some ⟨g, 0, none⟩) sc.length c1) := cell_of_any _ _ 5 _ _ _ g1
  have q6 : w6.cell? ⟨B + 1, 6, none⟩ = some (.slice p2 ts.length c2) := cell_of_any _ _ 6 _ _ _ g1
  have hdg := digest_any z0 z1 z2 z3 z4 _ _ (sc.set K nw) ts (by rw [List.length_set]; unfold room; omega) (by unfold room; omega) w6 hst6.sl (S.own_sl hT3 hrt) (tab_bel HG.out.2.2 hbW)
  obtain ⟨D2, hD2⟩ : ∃ D2, crc (dgB z0 z1 z2 z3 z4 (sc.set K nw) ts) = D2 := ⟨_, rfl⟩
  rw [hD2] at hdg htn
  have hne : ((D2 : Int) == (DD : Int)) = false := by
    have : ¬ (D2 : Int) = (DD : Int) := by omega
    simpa using this
  have hne2 : ¬ (D2 : Int) = (DD : Int) := by omega
  have hne3 : ((D2 : Int) != (DD : Int)) = true := by rw [bne, hne]; rfl
  have hne4 : (D2 == DD) = false := by simpa using htn
  have hne5 : (D2 != DD) = true := by rw [bne, hne4]; rfl
  have HF := hid hbW
  have c5 : w5.drew.cell? ⟨B + 1, 5, none⟩ = some (.slice (some ⟨g, 0, none⟩) sc.length c1) := q5'
  have ck : w5.drew.cell? ⟨g, K, none⟩ = some (.int .u8 (old.toNat : Int)) := hck
  have fk : w5.drew.frozen? ⟨g, K, none⟩ = false := hfz
  have ik : (K : Int) < (sc.length : Int) := by omega
  have ik0 : (0 : Int) ≤ (K : Int) := by omega
  clear hst hst6 hot g1 hrt hbW6 hbW hgl hck hfz hold hnw hpos htn hD2 HK HGG HR HBW HZ4 HKL HDD hat hbz hz hKl
  by_cases hn : m < 0
  · have hK2 : (K : Int) = -m := by rw [hKn, if_pos hn]
    have y1 : IntKind.i64.wrap (-m) = (K : Int) := by rw [hK2, IntKind.wrap_i64]; omega
    have y2 : -m = (K : Int) := hK2.symm
    clear hKn hK2 hma
    go_upto_region 12 with fail
    clear y0 y1 y2 hn hm q5'
    refine wp_region_drop [11] (S := fun wz : World => wz.cell? ⟨B + 1, 5, none⟩ = some (.slice (some ⟨g, 0, none⟩) sc.length c1) ∧ wz.cell? ⟨g, K, none⟩ = some (.int .u8 (old.toNat : Int))) (by kernel_rfl) ⟨c5, ck⟩ (fun hHeld => ?_)
    generalize w5.drew = y0 at *
    refine wpD_takeP (i := 0) (v := ?_) rfl (by kernel_rfl) (by kernel_rfl) (by kernel_rfl) (by kernel_rfl) (fun c a w h => h) (Or.inl ⟨by rfl, ?_⟩) (fun _ => hHeld) ?_
    rotate_left
    · (intro w hSw; clear hSw; go_simp; try with_reducible rfl)
    simp only [Act.put, List.getElem_toArray, List.getElem_cons_zero, List.getElem_cons_succ, List.setIfInBounds_toArray, List.set_cons_zero, List.set_cons_succ]
    refine wpD_takeT (i := 1) (v := ?_) rfl (by kernel_rfl) (by kernel_rfl) (by kernel_rfl) (by kernel_rfl) (by kernel_rfl) (by kernel_rfl) (fun c a w h => h) (Or.inl ⟨by rfl, ?_⟩) hHeld ?_
    rotate_left
    · (intro w hSw; (try dsimp only at hSw); go_simp; try with_reducible rfl)
    simp only [Act.put, List.getElem_toArray, List.getElem_cons_zero, List.getElem_cons_succ, List.setIfInBounds_toArray, List.set_cons_zero, List.set_cons_succ]
    refine wpD_takeP (i := 2) (v := ?_) rfl (by kernel_rfl) (by kernel_rfl) (by kernel_rfl) (by kernel_rfl) (fun c a w h => h) (Or.inl ⟨by rfl, ?_⟩) (fun _ => hHeld) ?_
    rotate_left
    · (intro w hSw; clear hSw; go_simp; try with_reducible rfl)
    simp only [Act.put, List.getElem_toArray, List.getElem_cons_zero, List.getElem_cons_succ, List.setIfInBounds_toArray, List.set_cons_zero, List.set_cons_succ]
    refine wpD_takeP (i := 3) (v := ?_) rfl (by kernel_rfl) (by kernel_rfl) (by kernel_rfl) (by kernel_rfl) (fun c a w h => h) (Or.inl ⟨by rfl, ?_⟩) (fun _ => hHeld) ?_
    rotate_left
    · (intro w hSw; clear hSw; go_simp; try with_reducible rfl)
    simp only [Act.put, List.getElem_toArray, List.getElem_cons_zero, List.getElem_cons_succ, List.setIfInBounds_toArray, List.set_cons_zero, List.set_cons_succ]
    refine wpD_takeT (i := 4) (v := ?_) rfl (by kernel_rfl) (by kernel_rfl) (by kernel_rfl) (by kernel_rfl) (by kernel_rfl) (by kernel_rfl) (fun c a w h => h) (Or.inl ⟨by rfl, ?_⟩) hHeld ?_
    rotate_left
    · (intro w hSw; (try dsimp only at hSw); go_simp; try with_reducible rfl)
    simp only [Act.put, List.getElem_toArray, List.getElem_cons_zero, List.getElem_cons_succ, List.setIfInBounds_toArray, List.set_cons_zero, List.set_cons_succ]
    refine wpD_takeP (i := 5) (v := ?_) rfl (by kernel_rfl) (by kernel_rfl) (by kernel_rfl) (by kernel_rfl) (fun c a w h => h) (Or.inl ⟨by rfl, ?_⟩) (fun _ => hHeld) ?_
    rotate_left
    · (intro w hSw; clear hSw; go_simp; try with_reducible rfl)
    simp only [Act.put, List.getElem_toArray, List.getElem_cons_zero, List.getElem_cons_succ, List.setIfInBounds_toArray, List.set_cons_zero, List.set_cons_succ]
    refine wpD_takeP (i := 6) (v := ?_) rfl (by kernel_rfl) (by kernel_rfl) (by kernel_rfl) (by kernel_rfl) (fun c a w h => h) (Or.inl ⟨by rfl, ?_⟩) (fun _ => hHeld) ?_
    rotate_left
    · (intro w hSw; clear hSw; go_simp; try with_reducible rfl)
    simp only [Act.put, List.getElem_toArray, List.getElem_cons_zero, List.getElem_cons_succ, List.setIfInBounds_toArray, List.set_cons_zero, List.set_cons_succ]
    refine wpD_takeT (i := 7) (v := ?_) rfl (by kernel_rfl) (by kernel_rfl) (by kernel_rfl) (by kernel_rfl) (by kernel_rfl) (by kernel_rfl) (fun c a w h => h) (Or.inl ⟨by rfl, ?_⟩) hHeld ?_
    rotate_left
    · (intro w hSw; (try dsimp only at hSw); go_simp; try with_reducible rfl)
    simp only [Act.put, List.getElem_toArray, List.getElem_cons_zero, List.getElem_cons_succ, List.setIfInBounds_toArray, List.set_cons_zero, List.set_cons_succ]
    refine wpD_takeP (i := 8) (v := ?_) rfl (by kernel_rfl) (by kernel_rfl) (by kernel_rfl) (by kernel_rfl) (fun c a w h => h) (Or.inl ⟨by rfl, ?_⟩) (fun _ => hHeld) ?_
    rotate_left
    · (intro w hSw; clear hSw; go_simp; try with_reducible rfl)
    simp only [Act.put, List.getElem_toArray, List.getElem_cons_zero, List.getElem_cons_succ, List.setIfInBounds_toArray, List.set_cons_zero, List.set_cons_succ]
    refine wpD_takeP (i := 9) (v := ?_) rfl (by kernel_rfl) (by kernel_rfl) (by kernel_rfl) (by kernel_rfl) (fun c a w h => h) (Or.inl ⟨by rfl, ?_⟩) (fun _ => hHeld) ?_
    rotate_left
    · (intro w hSw; clear hSw; go_simp; try with_reducible rfl)
    simp only [Act.put, List.getElem_toArray, List.getElem_cons_zero, List.getElem_cons_succ, List.setIfInBounds_toArray, List.set_cons_zero, List.set_cons_succ]
    refine wpD_takeP (i := 10) (v := ?_) rfl (by kernel_rfl) (by kernel_rfl) (by kernel_rfl) (by kernel_rfl) (fun c a w h => h) (Or.inl ⟨by rfl, ?_⟩) (fun _ => hHeld) ?_
    rotate_left
    · (intro w hSw; clear hSw; go_simp; try with_reducible rfl)
    simp only [Act.put, List.getElem_toArray, List.getElem_cons_zero, List.getElem_cons_succ, List.setIfInBounds_toArray, List.set_cons_zero, List.set_cons_succ]
    refine wpD_ready (rs := [11]) (by kernel_rfl) (by simp) ?_
    refine AllD.late rfl (by kernel_rfl) (fun K hK => ?_)
    go_simp
    refine hK.out _ _ ?_
    clear hK K
    try simp only [Act.put, List.getElem_toArray, List.getElem_cons_zero, List.getElem_cons_succ, List.setIfInBounds_toArray, List.set_cons_zero, List.set_cons_succ]
    refine wpD_done (by kernel_rfl) ?_ _
    try rw [hw6]
    clear hw6 c5 ck fk hHeld
    go_wp2_with fail
    refine (by simpa only [List.length_set] using hdg : Calls _ _ _ _ _).mono ?_
    rintro e w7 ⟨rfl, hb7⟩
    have HE := hid (HF.out.trans (hb7.mono HF.out.size))
    clear hb7 hdg q0 q1 q2 q3 q4 q5 q6
    go_wp2
    go_ret
    exact ⟨rfl, HE.out⟩
  · have hK2 : m = (K : Int) := by rw [hKn, if_neg hn]
    subst hK2
    clear hKn hma
    go_upto_region 12 with fail
    clear y0 hn hm q5'
    refine wp_region_drop [11] (S := fun wz : World => wz.cell? ⟨B + 1, 5, none⟩ = some (.slice (some ⟨g, 0, none⟩) sc.length c1) ∧ wz.cell? ⟨g, K, none⟩ = some (.int .u8 (old.toNat : Int))) (by kernel_rfl) ⟨c5, ck⟩ (fun hHeld => ?_)
    generalize w5.drew = y0 at *
    refine wpD_takeP (i := 0) (v := ?_) rfl (by kernel_rfl) (by kernel_rfl) (by kernel_rfl) (by kernel_rfl) (fun c a w h => h) (Or.inl ⟨by rfl, ?_⟩) (fun _ => hHeld) ?_
    rotate_left
    · (intro w hSw; clear hSw; go_simp; try with_reducible rfl)
    simp only [Act.put, List.getElem_toArray, List.getElem_cons_zero, List.getElem_cons_succ, List.setIfInBounds_toArray, List.set_cons_zero, List.set_cons_succ]
    refine wpD_takeT (i := 1) (v := ?_) rfl (by kernel_rfl) (by kernel_rfl) (by kernel_rfl) (by kernel_rfl) (by kernel_rfl) (by kernel_rfl) (fun c a w h => h) (Or.inl ⟨by rfl, ?_⟩) hHeld ?_
    rotate_left
    · (intro w hSw; (try dsimp only at hSw); go_simp; try with_reducible rfl)
    simp only [Act.put, List.getElem_toArray, List.getElem_cons_zero, List.getElem_cons_succ, List.setIfInBounds_toArray, List.set_cons_zero, List.set_cons_succ]
    refine wpD_takeP (i := 2) (v := ?_) rfl (by kernel_rfl) (by kernel_rfl) (by kernel_rfl) (by kernel_rfl) (fun c a w h => h) (Or.inl ⟨by rfl, ?_⟩) (fun _ => hHeld) ?_
    rotate_left
    · (intro w hSw; clear hSw; go_simp; try with_reducible rfl)
    simp only [Act.put, List.getElem_toArray, List.getElem_cons_zero, List.getElem_cons_succ, List.setIfInBounds_toArray, List.set_cons_zero, List.set_cons_succ]
    refine wpD_takeP (i := 3) (v := ?_) rfl (by kernel_rfl) (by kernel_rfl) (by kernel_rfl) (by kernel_rfl) (fun c a w h => h) (Or.inl ⟨by rfl, ?_⟩) (fun _ => hHeld) ?_
    rotate_left
    · (intro w hSw; clear hSw; go_simp; try with_reducible rfl)
    simp only [Act.put, List.getElem_toArray, List.getElem_cons_zero, List.getElem_cons_succ, List.setIfInBounds_toArray, List.set_cons_zero, List.set_cons_succ]
    refine wpD_takeT (i := 4) (v := ?_) rfl (by kernel_rfl) (by kernel_rfl) (by kernel_rfl) (by kernel_rfl) (by kernel_rfl) (by kernel_rfl) (fun c a w h => h) (Or.inl ⟨by rfl, ?_⟩) hHeld ?_
    rotate_left
    · (intro w hSw; (try dsimp only at hSw); go_simp; try with_reducible rfl)
    simp only [Act.put, List.getElem_toArray, List.getElem_cons_zero, List.getElem_cons_succ, List.setIfInBounds_toArray, List.set_cons_zero, List.set_cons_succ]
    refine wpD_takeP (i := 5) (v := ?_) rfl (by kernel_rfl) (by kernel_rfl) (by kernel_rfl) (by kernel_rfl) (fun c a w h => h) (Or.inl ⟨by rfl, ?_⟩) (fun _ => hHeld) ?_
    rotate_left
    · (intro w hSw; clear hSw; go_simp; try with_reducible rfl)
    simp only [Act.put, List.getElem_toArray, List.getElem_cons_zero, List.getElem_cons_succ, List.setIfInBounds_toArray, List.set_cons_zero, List.set_cons_succ]
    refine wpD_takeP (i := 6) (v := ?_) rfl (by kernel_rfl) (by kernel_rfl) (by kernel_rfl) (by kernel_rfl) (fun c a w h => h) (Or.inl ⟨by rfl, ?_⟩) (fun _ => hHeld) ?_
    rotate_left
    · (intro w hSw; clear hSw; go_simp; try with_reducible rfl)
    simp only [Act.put, List.getElem_toArray, List.getElem_cons_zero, List.getElem_cons_succ, List.setIfInBounds_toArray, List.set_cons_zero, List.set_cons_succ]
    refine wpD_takeT (i := 7) (v := ?_) rfl (by kernel_rfl) (by kernel_rfl) (by kernel_rfl) (by kernel_rfl) (by kernel_rfl) (by kernel_rfl) (fun c a w h => h) (Or.inl ⟨by rfl, ?_⟩) hHeld ?_
    rotate_left
    · (intro w hSw; (try dsimp only at hSw); go_simp; try with_reducible rfl)
    simp only [Act.put, List.getElem_toArray, List.getElem_cons_zero, List.getElem_cons_succ, List.setIfInBounds_toArray, List.set_cons_zero, List.set_cons_succ]
    refine wpD_takeP (i := 8) (v := ?_) rfl (by kernel_rfl) (by kernel_rfl) (by kernel_rfl) (by kernel_rfl) (fun c a w h => h) (Or.inl ⟨by rfl, ?_⟩) (fun _ => hHeld) ?_
    rotate_left
    · (intro w hSw; clear hSw; go_simp; try with_reducible rfl)
    simp only [Act.put, List.getElem_toArray, List.getElem_cons_zero, List.getElem_cons_succ, List.setIfInBounds_toArray, List.set_cons_zero, List.set_cons_succ]
    refine wpD_takeP (i := 9) (v := ?_) rfl (by kernel_rfl) (by kernel_rfl) (by kernel_rfl) (by kernel_rfl) (fun c a w h => h) (Or.inl ⟨by rfl, ?_⟩) (fun _ => hHeld) ?_
    rotate_left
    · (intro w hSw; clear hSw; go_simp; try with_reducible rfl)
    simp only [Act.put, List.getElem_toArray, List.getElem_cons_zero, List.getElem_cons_succ, List.setIfInBounds_toArray, List.set_cons_zero, List.set_cons_succ]
    refine wpD_takeP (i := 10) (v := ?_) rfl (by kernel_rfl) (by kernel_rfl) (by kernel_rfl) (by kernel_rfl) (fun c a w h => h) (Or.inl ⟨by rfl, ?_⟩) (fun _ => hHeld) ?_
    rotate_left
    · (intro w hSw; clear hSw; go_simp; try with_reducible rfl)
    simp only [Act.put, List.getElem_toArray, List.getElem_cons_zero, List.getElem_cons_succ, List.setIfInBounds_toArray, List.set_cons_zero, List.set_cons_succ]
    refine wpD_ready (rs := [11]) (by kernel_rfl) (by simp) ?_
    refine AllD.late rfl (by kernel_rfl) (fun K hK => ?_)
    go_simp
    refine hK.out _ _ ?_
    clear hK K
    try simp only [Act.put, List.getElem_toArray, List.getElem_cons_zero, List.getElem_cons_succ, List.setIfInBounds_toArray, List.set_cons_zero, List.set_cons_succ]
    refine wpD_done (by kernel_rfl) ?_ _
    try rw [hw6]
    clear hw6 c5 ck fk hHeld
    go_wp2_with fail
    refine (by simpa only [List.length_set] using hdg : Calls _ _ _ _ _).mono ?_
    rintro e w7 ⟨rfl, hb7⟩
    have HE := hid (HF.out.trans (hb7.mono HF.out.size))
    clear hb7 hdg q0 q1 q2 q3 q4 q5 q6
    go_wp2
    go_ret
    exact ⟨rfl, HE.out⟩
end Go.Proofs.YtlljelfplffglaaDoor.H
