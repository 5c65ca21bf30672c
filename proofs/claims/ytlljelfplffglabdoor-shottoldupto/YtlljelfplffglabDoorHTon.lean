import Derived.Test.YtlljelfplffglabDoorHUp
import Derived.Test.YtlljelfplffglabDoorHDg
/-! Tones. -/
namespace Go.Proofs.YtlljelfplffglabDoor.H
open Go.RowKit Go.Shelf
open Go.Proofs
open Go.Proofs.YtlljelfplffglabDoor.K
set_option linter.unusedVariables false
set_option linter.unusedSimpArgs false
set_option maxHeartbeats 2000000
set_option maxRecDepth 100000
def P10 (w : World) : Prop := Lib.TabIs Tryd.prog w Tryd.pow10Name .u64 Lib.pow10Tab
theorem P10.below {w w' : World} (h : P10 w) (b : Below w.heap.size w w') : P10 w' := by
  have h1 := h
  unfold P10 at *
  unfold Lib.TabIs World.var? at *
  cases hg : Tryd.prog.globalNamed Tryd.pow10Name with
  | none => rw [hg] at h1; exact absurd h1 (by simp)
  | some g =>
    rw [hg] at h1
    simp only [Option.bind_some] at h1 ⊢
    cases hh : w.heap[g]? with
    | none => rw [hh] at h1; exact absurd h1 (by simp)
    | some o =>
      have hl : g < w.heap.size := (Array.getElem?_eq_some_iff.1 hh).1
      rw [b.block g hl]; exact h1
def inI (z : Int) : Prop := -9223372036854775808 ≤ z ∧ z ≤ 9223372036854775807
theorem dec_len (u n : Nat) : u < 10 ^ (n + 1) → (Lib.decDigits u).length ≤ n + 1 := by
  induction n generalizing u with
  | zero => intro h; unfold Lib.decDigits; rw [dif_pos (by simpa using h)]; simp
  | succ n ih =>
    intro h
    unfold Lib.decDigits
    split
    · simp
    · have := ih (u / 10) (by rw [Nat.pow_succ] at h; omega)
      rw [List.length_append]; simp; omega
theorem itoa_len (z : Int) (h : inI z) : (Lib.itoa z).length ≤ 20 := by
  unfold inI at h
  unfold Lib.itoa
  split
  · have := dec_len z.natAbs 18 (by omega)
    simp; omega
  · have := dec_len z.toNat 18 (by omega)
    omega
/-- A tone's line. -/
def tl (t : Tn) : List UInt8 := Lib.itoa t.c ++ [32] ++ (Lib.decDigits t.p.toNat ++ [32]) ++ (Lib.decDigits t.v.toNat ++ [10])
theorem tl_len (t : Tn) (h : inI t.c) : (tl t).length ≤ 31 := by
  have h1 := itoa_len t.c h
  have h2 := dec_len t.p.toNat 4 (by have := t.p.toNat_lt; omega)
  have h3 := dec_len t.v.toNat 2 (by have := t.v.toNat_lt; omega)
  unfold tl
  simp only [List.length_append, List.length_cons, List.length_nil]
  omega
theorem tls_len (ts : List Tn) (h : ∀ t ∈ ts, inI t.c) : (ts.flatMap tl).length ≤ 31 * ts.length := by
  induction ts with
  | nil => simp
  | cons t r ih =>
    have := tl_len t (h t (by simp))
    have := ih (fun x hx => h x (by simp [hx]))
    rw [List.flatMap_cons, List.length_append, List.length_cons]; omega
/-- What a call that appends to a row leaves: the row's own type alone is written. -/
def Ks (W W' : World) : Prop := ∀ (k : Nat) (c : Array Value) (t : TypeId) (f : Nat × Nat), t ≠ 5 → W.heap[k]? = some (.cells c t f) → W'.heap[k]? = some (.cells c t f)
theorem ks_kept {W W' : World} (h : Lib.OthersKept 5 none W W') : Ks W W' := fun k c t f ht hk => h k _ hk (by simp) (fun c' f' e => by simp at e; exact ht e.2.1)
theorem ks_grew {W W' : World} {B : Nat} {v v' : Value} {l : List UInt8} (h : Row W B v l) (g : Grew W W' v v') : Ks W W' := fun k c t f ht hk => (g.block k (Array.getElem?_eq_some_iff.1 hk).1 (fun e => row_ne h k c t f hk ht e.symm)).trans hk
theorem ks_alloc (W : World) (o : Obj) : Ks W (W.alloc o) := fun k c t f ht hk => (Below.heap_alloc _ _ _ (Array.getElem?_eq_some_iff.1 hk).1).trans hk
theorem appi_any (B : Nat) (z : Int) (hz : inI z) (sv : Value) (l : List UInt8) (hl : l.length + 21 ≤ room) (w : World) (h : Row w B sv l) (hB : B ≤ w.heap.size) (hT : ∀ w', Below B w w' → P10 w') :
    Calls Tryd.prog 26 #[sv, .int .i64 z, .int .i64 10] w fun e w' => ∃ v', e = .returned v' ∧ Row w' B v' (l ++ Lib.itoa z) ∧ Below B w w' ∧ Ks w w' := by
  refine (Tryd.strconv_AppendInt_10 B l.length z hz.1 hz.2 sv (bv l) w h hB (by unfold room at hl; omega) hT).mono ?_
  rintro e w' ⟨v', rfl, h1, h2, h3⟩
  refine ⟨v', rfl, ?_, h2, ks_kept h3⟩
  unfold Row
  rw [List.length_append, bv_append]
  exact h1
theorem appu_any (B u : Nat) (hu : u < 65536) (sv : Value) (l : List UInt8) (hl : l.length + 21 ≤ room) (w : World) (h : Row w B sv l) (hB : B ≤ w.heap.size) (hT : P10 w) :
    Calls Tryd.prog 27 #[sv, .int .u64 (u : Int), .int .i64 10] w fun e w' => ∃ v', e = .returned v' ∧ Row w' B v' (l ++ Lib.decDigits u) ∧ Below B w w' ∧ Ks w w' := by
  have hc := Tryd.internal_strconv_AppendUint_10 B l.length u (by omega) sv (bv l) w h hB (by unfold room at hl; omega) hT
  obtain ⟨p, c, rfl⟩ := own_val h
  go_enter Tryd.func27, Tryd.ntmps27
  go_wp2_with fail
  refine hc.mono ?_
  rintro e w' ⟨v', rfl, h1, h2, h3⟩
  have h4 : Row w' B v' (l ++ Lib.decDigits u) := by
    unfold Row
    rw [List.length_append, bv_append]
    exact h1
  clear h1
  obtain ⟨LL, hLL⟩ : ∃ LL, l ++ Lib.decDigits u = LL := ⟨_, rfl⟩
  rw [hLL] at h4
  have HLL := hid hLL
  clear hLL
  obtain ⟨p', c', rfl⟩ := own_val h4
  have HE := hid (And.intro h4 (And.intro h2 (ks_kept h3)))
  clear h2 h3 h4 hc
  go_wp2
  go_ret
  rw [HLL.out]
  exact ⟨_, rfl, HE.out⟩
theorem tones_any (vt : Value) (ts : List Tn) (hI : ∀ t ∈ ts, inI t.c) (hl : 31 * ts.length + 4096 ≤ room) (w : World) (ht : S.Ls eT 3 w vt ts) (hT : P10 w) :
    Calls Tryd.prog 11 #[vt] w fun e w' => e = .returned (.string ⟨(ts.flatMap tl).toArray⟩) ∧ Below w.heap.size w w' := by
  obtain ⟨pt, ct, rfl, _, _⟩ := ht.ex
  have HT := hid ht
  have HP := hid hT
  have HI := hid hI
  have hfl := tls_len ts hI
  unfold room at hl
  have hml : (ts.flatMap tl).length ≤ maxLen := by unfold maxLen; omega
  clear ht hT hI hfl
  go_enter Tryd.func11, Tryd.ntmps11
  go_wp2
  go_loopw [3, 8] (fun v i wr => ∃ k : Nat, k ≤ ts.length ∧ i = .int .i64 (k : Int) ∧ Row wr w.heap.size v ((ts.take k).flatMap tl) ∧ Below w.heap.size w wr) (fun _ i _ => ts.length - (intOf i).toNat)
  case atStart => exact ⟨0, by omega, rfl, row_nil _ _, Below.refl _ _⟩
  case round =>
    obtain ⟨k, hk, rfl, hr, hb⟩ := hrel
    by_cases hlt : k < ts.length
    · have i1 : (k : Int) < ts.length := by omega
      obtain ⟨b, ob, cb, eb, a0, a1, a2⟩ := lt_at HT.out k hlt
      simp only [Value.slice.injEq] at eb
      obtain ⟨rfl, _, rfl⟩ := eb
      have hstep : (ts.take (k + 1)).flatMap tl = (ts.take k).flatMap tl ++ tl ts[k] := by
        rw [List.take_succ_eq_append_getElem hlt, List.flatMap_append, List.flatMap_cons, List.flatMap_nil, List.append_nil]
      have hlen := tls_len (ts.take k) (fun t ht => HI.out t (List.mem_of_mem_take ht))
      rw [List.length_take] at hlen
      have hin := HI.out ts[k] (List.getElem_mem hlt)
      generalize ts[k] = t at *
      obtain ⟨tc, tp, tv⟩ := t
      simp only at a0 a1 a2 hstep hin
      have hil := itoa_len tc hin
      have hdl := dec_len tp.toNat 4 (by have := tp.toNat_lt; omega)
      have hel := dec_len tv.toNat 2 (by have := tv.toNat_lt; omega)
      have c0 := (hb.cell (World.block_lt_of_cell? w _ a0)).trans a0
      have c1 := (hb.cell (World.block_lt_of_cell? w _ a1)).trans a1
      have c2 := (hb.cell (World.block_lt_of_cell? w _ a2)).trans a2
      obtain ⟨wa, hwa⟩ : ∃ wa, wa = wr.alloc (.cells #[.int .i64 tc, .int .u16 (tp.toNat : Int), .int .u8 (tv.toNat : Int)] 39) := ⟨_, rfl⟩
      have hba : Below wr.heap.size wr wa := by rw [hwa]; exact (Below.refl _ _).alloc (Nat.le_refl _) _
      have hna : wa.heap[wr.heap.size]? = some (.cells #[.int .i64 tc, .int .u16 (tp.toNat : Int), .int .u8 (tv.toNat : Int)] 39 (0, 0)) := by rw [hwa]; exact heap_alloc_new wr _
      have hra := hr.below hba
      have hbW := hb.trans (hba.mono hb.size)
      obtain ⟨Bx, hBx⟩ : ∃ Bx, wr.heap.size = Bx := ⟨_, rfl⟩
      rw [hBx] at hna
      have k0 : wa.cell? ⟨Bx, 0, none⟩ = some (.int .i64 tc) := cell_of_any _ _ 0 _ _ _ hna
      obtain ⟨L, hL⟩ : ∃ L, (ts.take k).flatMap tl = L := ⟨_, rfl⟩
      rw [hL] at hra hstep hlen
      have HST := hid hstep
      have HR := hid (And.intro hra hbW)
      have HNA := hid hna
      have HLN := hid (show L.length + 100 ≤ 140737488355328 ∧ (Lib.itoa tc).length ≤ 20 ∧ (Lib.decDigits tp.toNat).length ≤ 5 ∧ (Lib.decDigits tv.toNat).length ≤ 3 by omega)
      clear hr hb hba hbW hra hna hstep hlen hil hdl hel a0 a1 a2 hL
      go_upto_region 5 with fail
      try rw [hBx]
      rw [← hwa]
      clear hwa c0 c1 c2 hBx
      have n5 : (39 : TypeId) ≠ 5 := by decide
      go_wp2_with fail
      refine (appi_any w.heap.size tc hin u3 L (by have := HLN.out; unfold room; omega) wa HR.out.1 HR.out.2.size (fun w' h => HP.out.below (HR.out.2.trans h))).mono ?_
      rintro e w1 ⟨v1, rfl, hr1, hb1, hs1⟩
      obtain ⟨L1, hL1⟩ : ∃ L1, L ++ Lib.itoa tc = L1 := ⟨_, rfl⟩
      rw [hL1] at hr1
      obtain ⟨p1, c1, rfl⟩ := own_val hr1
      have hbW := HR.out.2.trans hb1
      have hna := hs1 _ _ _ _ n5 HNA.out
      have hbz : Below w1.heap.size w1 (w1.alloc (.cells (bv [32]).toArray 5)) := (Below.refl _ _).alloc (Nat.le_refl _) _
      have HH := hid (And.intro (hr1.below hbz) (And.intro (row_of_alloc w1 w.heap.size hbW.size [32] (by decide)).sl (And.intro (hbW.trans (hbz.mono hbW.size)) (ks_alloc w1 (.cells (bv [32]).toArray 5) _ _ _ _ n5 hna))))
      have HL1 := hid hL1
      clear hr1 hb1 hs1 hna hbz hbW k0 HR HNA hL1
      go_wp2_with (first | (at_builtin; refine wpList_append_bytes _ rfl _ _ rfl w.heap.size _ L1 rfl HH.out.1 _ [32] rfl HH.out.2.1 (by have := HLN.out; rw [← HL1.out]; unfold room; simp; omega) HH.out.2.2.1.size ?_))
      intro v2 w2 hr2 hg2
      have hb2 := HH.out.2.2.1.trans (below_append HH.out.1 hg2 HH.out.2.2.1.size)
      have hna := ks_grew HH.out.1 hg2 _ _ _ _ n5 HH.out.2.2.2
      have k1 : w2.cell? ⟨Bx, 1, none⟩ = some (.int .u16 (tp.toNat : Int)) := cell_of_any _ _ 1 _ _ _ hna
      obtain ⟨p2, c2, hv2⟩ := own_val hr2
      obtain ⟨L2, hL2⟩ : ∃ L2, L1 ++ [32] = L2 := ⟨_, rfl⟩
      rw [hL2] at hr2 hv2
      subst hv2
      have HR := hid (And.intro hr2 hb2)
      have HNA := hid hna
      have HL2 := hid hL2
      have hp16 := tp.toNat_lt
      have hLl : L2.length + 21 ≤ room := by have := HLN.out; rw [← hL2, ← HL1.out]; unfold room; simp; omega
      clear hr2 hb2 hg2 hna hL2 HH
      generalize hL2n : L2.length = n2 at *
      have HL2n := hid hL2n
      clear hL2n
      have hu16 : IntKind.u64.wrap (tp.toNat : Int) = (tp.toNat : Int) := by simp [IntKind.wrap, IntKind.bits, IntKind.signed]; omega
      go_wp2_with fail
      refine (appu_any w.heap.size tp.toNat hp16 _ L2 (by rw [HL2n.out]; exact hLl) w2 HR.out.1 HR.out.2.size (HP.out.below HR.out.2)).mono ?_
      rintro e w3 ⟨v3, rfl, hr3, hb3, hs3⟩
      obtain ⟨L3, hL3⟩ : ∃ L3, L2 ++ Lib.decDigits tp.toNat = L3 := ⟨_, rfl⟩
      rw [hL3] at hr3
      obtain ⟨p3, c3, rfl⟩ := own_val hr3
      have hbW := HR.out.2.trans hb3
      have hna := hs3 _ _ _ _ n5 HNA.out
      have hbz : Below w3.heap.size w3 (w3.alloc (.cells (bv [32]).toArray 5)) := (Below.refl _ _).alloc (Nat.le_refl _) _
      have HH := hid (And.intro (hr3.below hbz) (And.intro (row_of_alloc w3 w.heap.size hbW.size [32] (by decide)).sl (And.intro (hbW.trans (hbz.mono hbW.size)) (ks_alloc w3 (.cells (bv [32]).toArray 5) _ _ _ _ n5 hna))))
      have HL3 := hid hL3
      clear hr3 hb3 hs3 hna hbz hbW k1 HR HNA hL3
      go_wp2_with (first | (at_builtin; refine wpList_append_bytes _ rfl _ _ rfl w.heap.size _ L3 rfl HH.out.1 _ [32] rfl HH.out.2.1 (by have := HLN.out; rw [← HL3.out, ← HL2.out, ← HL1.out]; unfold room; simp; omega) HH.out.2.2.1.size ?_))
      intro v4 w4 hr4 hg4
      have hb4 := HH.out.2.2.1.trans (below_append HH.out.1 hg4 HH.out.2.2.1.size)
      have hna := ks_grew HH.out.1 hg4 _ _ _ _ n5 HH.out.2.2.2
      have k2 : w4.cell? ⟨Bx, 2, none⟩ = some (.int .u8 (tv.toNat : Int)) := cell_of_any _ _ 2 _ _ _ hna
      obtain ⟨p4, c4, hv4⟩ := own_val hr4
      obtain ⟨L4, hL4⟩ : ∃ L4, L3 ++ [32] = L4 := ⟨_, rfl⟩
      rw [hL4] at hr4 hv4
      subst hv4
      have HR := hid (And.intro hr4 hb4)
      have HL4 := hid hL4
      have hv8 := tv.toNat_lt
      have hLl4 : L4.length + 21 ≤ room := by have := HLN.out; rw [← hL4, ← HL3.out, ← HL2.out, ← HL1.out]; unfold room; simp; omega
      clear hr4 hb4 hg4 hna hL4 HH
      generalize hL4n : L4.length = n4 at *
      have HL4n := hid hL4n
      clear hL4n
      have hu8 : IntKind.u64.wrap (tv.toNat : Int) = (tv.toNat : Int) := by simp [IntKind.wrap, IntKind.bits, IntKind.signed]; omega
      go_wp2_with fail
      refine (appu_any w.heap.size tv.toNat (by omega) _ L4 (by rw [HL4n.out]; exact hLl4) w4 HR.out.1 HR.out.2.size (HP.out.below HR.out.2)).mono ?_
      rintro e w5 ⟨v5, rfl, hr5, hb5, hs5⟩
      obtain ⟨L5, hL5⟩ : ∃ L5, L4 ++ Lib.decDigits tv.toNat = L5 := ⟨_, rfl⟩
      rw [hL5] at hr5
      obtain ⟨p5, c5, rfl⟩ := own_val hr5
      have hbW := HR.out.2.trans hb5
      have hbz : Below w5.heap.size w5 (w5.alloc (.cells (bv [10]).toArray 5)) := (Below.refl _ _).alloc (Nat.le_refl _) _
      have HH := hid (And.intro (hr5.below hbz) (And.intro (row_of_alloc w5 w.heap.size hbW.size [10] (by decide)).sl (hbW.trans (hbz.mono hbW.size))))
      have HL5 := hid hL5
      clear hr5 hb5 hs5 hbz hbW k2 HR hL5
      go_wp2_with (first | (at_builtin; refine wpList_append_bytes _ rfl _ _ rfl w.heap.size _ L5 rfl HH.out.1 _ [10] rfl HH.out.2.1 (by have := HLN.out; rw [← HL5.out, ← HL4.out, ← HL3.out, ← HL2.out, ← HL1.out]; unfold room; simp; omega) HH.out.2.2.size ?_))
      intro v6 w6 hr6 hg6
      have hb6 := HH.out.2.2.trans (below_append HH.out.1 hg6 HH.out.2.2.size)
      have hfin : L5 ++ [10] = (ts.take (k + 1)).flatMap tl := by
        rw [HST.out, ← HL5.out, ← HL4.out, ← HL3.out, ← HL2.out, ← HL1.out, tl]
        simp only [List.append_assoc]
      rw [hfin] at hr6
      have HE := hid (And.intro hr6 hb6)
      clear hr6 hb6 hg6 HH hfin
      go_wp2
      go_roundw
      case rel => exact ⟨k + 1, by omega, by go_num, HE.out.1, HE.out.2⟩
      case measure => simp [intOf]; omega
    · obtain rfl : k = ts.length := by omega
      rw [List.take_length] at hr
      obtain ⟨LT, hLT⟩ : ∃ LT, ts.flatMap tl = LT := ⟨_, rfl⟩
      rw [hLT] at hr hml
      have HLT := hid hLT
      clear hLT
      obtain ⟨pv, cv, rfl⟩ := own_val hr
      have hcv := hr.sl.conv hml
      have HE := hid hb
      clear hr hb
      go_wp2
      go_ret
      rw [HLT.out]
      exact ⟨rfl, HE.out⟩
end Go.Proofs.YtlljelfplffglabDoor.H
