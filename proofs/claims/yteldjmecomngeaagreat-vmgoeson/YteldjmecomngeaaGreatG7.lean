import Derived.Test.YteldjmecomngeaaGreatG6
import Derived.Deep.RegionHeld
import Derived.Deep.RegionHeldLaw
import Derived.Deep.QuietTactic
/-! leads, done, do. -/
namespace Go.Proofs.YteldjmecomngeaaGreat.V
open Go.RowKit
open Go.Proofs
set_option linter.unusedVariables false
set_option linter.unusedSimpArgs false
set_option maxHeartbeats 1000000
set_option maxRecDepth 100000
theorem rest_C {D : List Int} (hD : ∀ x ∈ D, C.C x) (i : Nat) : ∀ x ∈ P.rest D i, C.C x := fun x hx => hD x (List.mem_of_mem_take hx)
theorem lk_C {R : List (Int × Int)} (hR : ∀ q ∈ R, C.C q.2) (k : Int) (bl : Nat) : C.C (P.lk k bl R).1 := by
  have z : C.C 0 := ⟨by omega, by omega⟩
  unfold P.lk
  split
  · exact z
  · split
    · exact z
    · split
      · cases e : R[R.length - 1 - bl]? with
        | none => exact z
        | some q => exact hR q (List.mem_of_getElem? e)
      · exact z
theorem put_C (op x y z s : Int) (m : M.MS) (hx : C.C x) (hy : C.C y) (hz : C.C z) (hs : C.C s) (hm : M.Wf m) : ∀ u ∈ P.putN op x y z s m, C.C u := by
  have h1 := M.ld_bound m hm x
  have h2 := M.ld_bound m hm ((x + 1) % 65536)
  have c1 : C.C (M.ld m x) := ⟨h1.1, by omega⟩
  have c2 : C.C (M.cl m x) := by unfold M.cl; exact ⟨by omega, by omega⟩
  have c3 : C.C m.pad := ⟨hm.pad0, by have := hm.pad1; omega⟩
  intro u hu
  unfold P.putN at hu
  split at hu
  all_goals first
    | (simp only [List.mem_cons, List.not_mem_nil, or_false] at hu; rcases hu with rfl | rfl | rfl | rfl <;> assumption)
    | (simp only [List.mem_cons, List.not_mem_nil, or_false] at hu; rcases hu with rfl | rfl | rfl <;> assumption)
    | (simp only [List.mem_cons, List.not_mem_nil, or_false] at hu; rcases hu with rfl | rfl <;> assumption)
    | (simp only [List.mem_cons, List.not_mem_nil, or_false] at hu; subst hu; assumption)
    | skip
  split at hu
  · simp at hu; subst hu; exact C.C_un _ _
  · split at hu
    · simp at hu; subst hu; exact C.C_bi _ _ _
    · simp at hu
theorem nD_C (op : Int) {D : List Int} {R : List (Int × Int)} {m : M.MS} (hD : ∀ x ∈ D, C.C x) (hR : ∀ q ∈ R, C.C q.2) (hm : M.Wf m) : ∀ x ∈ P.nD op D R m, C.C x := by
  intro x hx
  unfold P.nD at hx
  rcases List.mem_append.1 hx with hx | hx
  · exact rest_C hD _ x hx
  · exact put_C _ _ _ _ _ m (P.C_xAt D hD _ _) (P.C_xAt D hD _ _) (P.C_xAt D hD _ _) (lk_C hR _ _) hm x hx
theorem nR_C (op : Int) {D : List Int} {R : List (Int × Int)} (hD : ∀ x ∈ D, C.C x) (hR : ∀ q ∈ R, C.C q.2) : ∀ q ∈ P.nR op D R, C.C q.2 := by
  intro q hq
  unfold P.nR P.retN at hq
  split at hq
  · rcases List.mem_append.1 hq with hq | hq
    · exact hR q hq
    · simp only [List.mem_cons, List.not_mem_nil, or_false] at hq
      rcases hq with rfl | rfl <;> exact P.C_xAt D hD _ _
  · rcases List.mem_append.1 hq with hq | hq
    · exact hR q hq
    · simp only [List.mem_cons, List.not_mem_nil, or_false] at hq
      subst hq; exact P.C_xAt D hD _ _
  · exact hR q (List.mem_of_mem_take hq)
  · exact hR q hq
/-- What leads answers. -/
def lead (op be : Int) (v : VS) : TN := match op with
  | 1 => if 128 < v.R.length + 1 then ⟨false, 4, v⟩ else ⟨true, 0, { v with R := v.R ++ [(1, be)] }⟩
  | 5 => match v.D.reverse with
    | [] => ⟨false, 1, v⟩
    | a :: t => ⟨a == 0, 0, { v with D := t.reverse }⟩
  | _ => turn v
theorem drewB (W : World) (q : Nat) : Below W.heap.size W (W.drewN q) := ⟨rfl, rfl, rfl, Nat.le_refl _, fun _ _ => rfl⟩
theorem at_below {b : Nat} {W W1 W' : World} (hb : Below W.heap.size W W1) (h : S.At b W1 W') : S.At b W W' :=
  ⟨h.os.trans hb.os, h.tape.trans hb.tape, h.output.trans hb.output, Nat.le_trans hb.size h.size, fun k hk hn => (h.block k (Nat.lt_of_lt_of_le hk hb.size) hn).trans (hb.block k hk)⟩
theorem leads1 (g bd br bm : Nat) (kv : Value) (F : Nat → Prop) (v : VS) (be : Int) (hbe : C.C be) (W : World) (h : MV W g bd br bm kv F v) :
    Calls Tryz.prog 120 #[.pointer (some ⟨g, 0, none⟩), .int .i64 1, .int .u16 be] W fun e W' => e = .returned (.tuple #[.bool (lead 1 be v).b, .int .i64 (lead 1 be v).f]) ∧ VD W W' g bd br bm kv F (lead 1 be v).v := by
  have hb := P.bel_alloc W (.cells #[.int .i64 1, .int .u16 be] 101)
  have hs : S.Sl S.eK 2 (W.alloc (.cells #[.int .i64 1, .int .u16 be] 101)) (some ⟨W.heap.size, 0, none⟩) [(1, be)] :=
    P.sl_block S.hK _ _ _ [(1, be)] (heap_alloc_new W (.cells #[.int .i64 1, .int .u16 be] 101))
  have c4 := h.c4
  by_cases q1 : 128 < v.R.length + 1
  · have ht : lead 1 be v = ⟨false, 4, v⟩ := by unfold lead; simp only; rw [if_pos q1]
    rw [ht]
    have hp := S.rpush_no br v.R [(1, be)] (some ⟨W.heap.size, 0, none⟩) 1 _ (h.ps.r.below hb) (by simpa using q1) (by unfold S.room; simp)
    simp only [List.length_cons, List.length_nil, Nat.reduceAdd] at hp
    have hv := h.same hb
    clear h hb hs ht q1
    go_enter Tryz.func120, Tryz.ntmps120
    go_wp2_with fail
    refine hp.mono ?_
    rintro e w1 ⟨rfl, rfl⟩
    go_wp2
    go_ret2
    exact ⟨rfl, hv⟩
  · have ht : lead 1 be v = ⟨true, 0, { v with R := v.R ++ [(1, be)] }⟩ := by unfold lead; simp only; rw [if_neg q1]
    rw [ht]
    have hp := S.rpush_yes br v.R [(1, be)] (some ⟨W.heap.size, 0, none⟩) 1 _ (h.ps.r.below hb) hs (by simp; omega)
    simp only [List.length_cons, List.length_nil, Nat.reduceAdd] at hp
    have hv : ∀ w', S.HasR w' br (v.R ++ [(1, be)]) → S.At br (W.alloc (.cells #[.int .i64 1, .int .u16 be] 101)) w' → VD W w' g bd br bm kv F { v with R := v.R ++ [(1, be)] } := fun w' a1 a2 =>
      At.kv h (at_below hb a2) a1 fun q hq => by
        rcases List.mem_append.1 hq with hq | hq
        · exact h.wf.r q hq
        · simp at hq; subst hq; exact hbe
    clear h hb hs ht q1
    go_enter Tryz.func120, Tryz.ntmps120
    go_wp2_with fail
    refine hp.mono ?_
    rintro e w1 ⟨rfl, a1, a2⟩
    have hf := hv _ a1 a2
    clear a1 a2 hv hp
    go_wp2
    go_ret2
    exact ⟨rfl, hf⟩
theorem leads5 (g bd br bm : Nat) (kv : Value) (F : Nat → Prop) (v : VS) (be : Int) (W : World) (h : MV W g bd br bm kv F v) :
    Calls Tryz.prog 120 #[.pointer (some ⟨g, 0, none⟩), .int .i64 5, .int .u16 be] W fun e W' => e = .returned (.tuple #[.bool (lead 5 be v).b, .int .i64 (lead 5 be v).f]) ∧ VD W W' g bd br bm kv F (lead 5 be v).v := by
  have c3 := h.c3
  have hn := S.dneed bd v.D 1 0 W h.ps.d
  have hd := h.ps.d
  rcases List.eq_nil_or_concat v.D with hr | ⟨l, a, hr⟩
  · have ht : lead 5 be v = ⟨false, 1, v⟩ := by unfold lead; simp only; rw [hr]; rfl
    rw [ht]
    have e : S.need v.D.length 1 0 = 1 := by rw [hr]; rfl
    rw [e] at hn
    have hv := h.same (Below.refl _ W)
    clear h hd ht hr e
    go_enter Tryz.func120, Tryz.ntmps120
    go_wp2_with fail
    refine hn.mono ?_
    rintro e w1 ⟨rfl, rfl⟩
    go_wp2
    go_ret2
    exact ⟨rfl, hv⟩
  · have hl := hd.2
    rw [hr] at hl
    have ht : lead 5 be v = ⟨a == 0, 0, { v with D := l }⟩ := by unfold lead; simp only; rw [hr]; simp
    rw [ht]
    have e : S.need v.D.length 1 0 = 0 := by
      rw [hr]; unfold S.need; simp at hl ⊢; rw [if_neg (by omega)]; rw [if_neg (by omega)]
    rw [e] at hn
    have hp := S.dpop bd l a W (by rw [hr] at hd; simpa using hd)
    have hv : ∀ w', S.HasD w' bd l → S.At bd W w' → VD W w' g bd br bm kv F { v with D := l } := fun w' a1 a2 =>
      At.kd h a2 a1 fun x hx => h.wf.d x (by rw [hr]; simp [hx])
    clear h hd ht hr e hl
    go_enter Tryz.func120, Tryz.ntmps120
    go_wp2_with fail
    refine hn.mono ?_
    rintro e w1 ⟨rfl, rfl⟩
    go_wp2_with fail
    refine hp.mono ?_
    rintro e w2 ⟨rfl, a1, a2⟩
    have hf := hv _ a1 a2
    clear a1 a2 hv hp hn
    go_wp2
    go_ret2
    exact ⟨rfl, hf⟩
theorem leads7 (g bd br bm : Nat) (kv : Value) (F : Nat → Prop) (v : VS) (be : Int) (W : World) (h : MV W g bd br bm kv F v) :
    Calls Tryz.prog 120 #[.pointer (some ⟨g, 0, none⟩), .int .i64 7, .int .u16 be] W fun e W' => e = .returned (.tuple #[.bool (lead 7 be v).b, .int .i64 (lead 7 be v).f]) ∧ VD W W' g bd br bm kv F (lead 7 be v).v := by
  have ht : lead 7 be v = turn v := rfl
  rw [ht]
  have hn := turns_any g bd br bm kv F v W h
  clear h ht
  go_enter Tryz.func120, Tryz.ntmps120
  go_wp2_with fail
  refine hn.mono ?_
  rintro e w1 ⟨rfl, hf⟩
  clear hn
  go_wp2
  go_ret2
  exact ⟨rfl, hf⟩
end Go.Proofs.YteldjmecomngeaaGreat.V
/-! done, do, Step. -/
namespace Go.Proofs.YteldjmecomngeaaGreat.V
open Go.RowKit
open Go.Proofs
set_option linter.unusedVariables false
set_option linter.unusedSimpArgs false
set_option maxHeartbeats 2000000
set_option maxRecDepth 100000
theorem pd_drew {W w' : World} {bd br bm : Nat} {F : Nat → Prop} {D : List Int} {R : List (Int × Int)} {m : M.MS} (h : P.PD W.drew w' bd br bm F D R m) : P.PD W w' bd br bm F D R m :=
  ⟨h.s, ⟨h.t.os, h.t.tape, h.t.output, h.t.size, h.t.block⟩⟩
theorem bel_drew {W w' : World} (h : Below W.drew.heap.size W.drew w') : Below W.heap.size W w' := ⟨h.os, h.tape, h.output, h.size, h.block⟩
/-- done, as it answers. -/
def DnO (op x be : Int) (v : VS) (g bd br bm : Nat) (kv : Value) (F : Nat → Prop) (W : World) : Prop :=
  Calls Tryz.prog 89 #[.pointer (some ⟨g, 0, none⟩), .int .i64 op, .int .u16 x, .int .u16 be] W fun e W' => e = .returned (.tuple #[.int .u16 (dn op x be v).on, .int .i64 (dn op x be v).f]) ∧ VD W W' g bd br bm kv F (dn op x be v).v
theorem dn_pl (op x be : Int) (v : VS) (h : P.plain op = true) : dn op x be v = pl op be v := by
  rcases P.plain_cases op h with rfl | rfl | rfl | rfl | rfl | rfl | rfl | rfl | rfl | rfl | rfl | rfl | rfl | rfl | rfl | rfl | rfl | rfl | rfl | rfl | rfl | rfl | rfl | rfl | rfl | rfl | rfl | rfl | rfl | rfl | rfl | rfl | rfl | rfl | rfl | rfl | rfl | rfl | rfl | rfl | rfl | rfl | rfl | rfl | rfl | rfl | rfl | rfl | rfl | rfl | rfl | rfl | rfl | rfl <;> rfl
section
variable (x be : Int) (v : VS) (g bd br bm : Nat) (kv : Value) (F : Nat → Prop) (W : World)
theorem done_10 (h : MV W g bd br bm kv F v) : DnO 10 x be v g bd br bm kv F W := by
  unfold DnO
  have ht : dn 10 x be v = ⟨be, 0, v⟩ := rfl
  rw [ht]
  have hv := h.same (Below.refl _ W)
  clear h
  go_enter Tryz.func89, Tryz.ntmps89
  go_wp2
  go_ret2
  exact ⟨rfl, hv⟩
theorem done_4 (h : MV W g bd br bm kv F v) : DnO 4 x be v g bd br bm kv F W := by
  unfold DnO
  have ht : dn 4 x be v = ⟨x, 0, v⟩ := rfl
  rw [ht]
  have hv := h.same (Below.refl _ W)
  clear h
  go_enter Tryz.func89, Tryz.ntmps89
  go_wp2
  go_ret2
  exact ⟨rfl, hv⟩
theorem halts (h : MV W g bd br bm kv F v) : VD W (W.setCell ⟨g, 1, none⟩ (.int .i64 2)) g bd br bm kv F { v with st := 2 } :=
  (h.same (Below.refl _ W)).set h 1 _ ((h.same (Below.refl _ W)).s.set 1 _ rfl rfl rfl rfl rfl ⟨h.wf.pc0, h.wf.pc1, h.wf.d, h.wf.r⟩)
theorem done_11 (h : MV W g bd br bm kv F v) : DnO 11 x be v g bd br bm kv F W := by
  unfold DnO
  have ht : dn 11 x be v = ⟨be, 0, { v with st := 2 }⟩ := rfl
  rw [ht]
  have hv := halts v g bd br bm kv F W h
  have c1 := h.c1
  have z1 := fz h 1
  clear h
  go_enter Tryz.func89, Tryz.ntmps89
  go_wp2
  go_ret2
  exact ⟨rfl, hv⟩
theorem done_8 (h : MV W g bd br bm kv F v) : DnO 8 x be v g bd br bm kv F W := by
  unfold DnO
  have c4 := h.c4
  have kl := S.rlen br v.R W h.ps.r
  rcases List.eq_nil_or_concat v.R with hr | ⟨l, ⟨k, a⟩, hr⟩
  · have ht : dn 8 x be v = ⟨be, 0, { v with st := 2 }⟩ := by unfold dn; simp only; rw [hr]; rfl
    rw [ht]
    have hv := halts v g bd br bm kv F W h
    have c1 := h.c1
    have z1 := fz h 1
    rw [hr] at kl
    simp only [List.length_nil] at kl
    clear h ht hr
    go_enter Tryz.func89, Tryz.ntmps89
    go_wp2_with fail
    refine kl.mono ?_
    rintro e w1 ⟨rfl, rfl⟩
    go_wp2
    go_ret2
    exact ⟨rfl, hv⟩
  · have hR := h.ps.r
    rw [hr] at hR kl
    simp only [List.concat_eq_append] at hR kl
    have hpos : decide (0 < (((l ++ [(k, a)]).length : Nat) : Int)) = true := decide_eq_true (by rw [List.length_append]; simp only [List.length_cons, List.length_nil]; omega)
    generalize (((l ++ [(k, a)]).length : Nat) : Int) = K at *
    by_cases q1 : k = 1
    · subst q1
      have ht : dn 8 x be v = ⟨a, 0, { v with R := l }⟩ := by unfold dn; simp only; rw [hr]; simp
      rw [ht]
      have hp := S.rpop_ok br l 1 a W hR
      have hv : ∀ w', S.HasR w' br l → S.At br W w' → VD W w' g bd br bm kv F { v with R := l } := fun w' a1 a2 =>
        At.kv h a2 a1 fun q hq => h.wf.r q (by rw [hr]; simp [hq])
      clear h ht hr hR
      go_enter Tryz.func89, Tryz.ntmps89
      go_wp2_with fail
      refine kl.mono ?_
      rintro e w1 ⟨rfl, rfl⟩
      go_wp2_with fail
      refine hp.mono ?_
      rintro e w2 ⟨rfl, a1, a2⟩
      have hf := hv _ a1 a2
      clear a1 a2 hv hp kl
      go_wp2
      go_ret2
      exact ⟨rfl, hf⟩
    · have ht : dn 8 x be v = ⟨0, 5, v⟩ := by unfold dn; simp only; rw [hr]; simp [q1]
      rw [ht]
      have hp := S.rpop_kind br l k a 1 q1 W hR
      have hv : ∀ q, VD W (W.drewN q) g bd br bm kv F v := fun q => h.same (drewB W q)
      clear h ht hr hR q1
      go_enter Tryz.func89, Tryz.ntmps89
      go_wp2_with fail
      refine kl.mono ?_
      rintro e w1 ⟨rfl, rfl⟩
      go_wp2_with fail
      refine hp.mono ?_
      rintro e w2 ⟨rfl, q, rfl⟩
      clear hp kl
      go_wp2
      go_ret2
      exact ⟨rfl, hv q⟩
end
theorem done_push (op : Int) (ho : op = 2 ∨ op = 3) (x be : Int) (hx : C.C x) (v : VS) (g bd br bm : Nat) (kv : Value) (F : Nat → Prop) (W : World) (h : MV W g bd br bm kv F v) : DnO op x be v g bd br bm kv F W := by
  unfold DnO
  have hb := P.bel_alloc W (.cells #[.int .u16 x] 23)
  have hs : S.Sl S.eU 1 (W.alloc (.cells #[.int .u16 x] 23)) (some ⟨W.heap.size, 0, none⟩) [x] :=
    P.sl_block S.hU _ _ _ [x] (heap_alloc_new W (.cells #[.int .u16 x] 23))
  have c3 := h.c3
  have o1 : (op == 10) = false := by rcases ho with rfl | rfl <;> rfl
  by_cases q1 : 256 < v.D.length + 1
  · have ht : dn op x be v = ⟨be, 2, v⟩ := by rcases ho with rfl | rfl <;> (unfold dn; simp only; rw [if_pos q1])
    rw [ht]
    have hp := S.dpush_no bd v.D [x] (some ⟨W.heap.size, 0, none⟩) 1 _ (h.ps.d.below hb) (by simpa using q1) (by unfold S.room; simp)
    simp only [List.length_cons, List.length_nil, Nat.reduceAdd] at hp
    have hv := h.same hb
    clear h hb hs ht q1 o1
    rcases ho with rfl | rfl
    all_goals
      go_enter Tryz.func89, Tryz.ntmps89
      go_wp2_with fail
      refine hp.mono ?_
      rintro e w1 ⟨rfl, rfl⟩
      go_wp2
      go_ret2
      exact ⟨rfl, hv⟩
  · have ht : dn op x be v = ⟨be, 0, { v with D := v.D ++ [x] }⟩ := by rcases ho with rfl | rfl <;> (unfold dn; simp only; rw [if_neg q1])
    rw [ht]
    have hp := S.dpush_yes bd v.D [x] (some ⟨W.heap.size, 0, none⟩) 1 _ (h.ps.d.below hb) hs (by simp; omega)
    simp only [List.length_cons, List.length_nil, Nat.reduceAdd] at hp
    have hv : ∀ w', S.HasD w' bd (v.D ++ [x]) → S.At bd (W.alloc (.cells #[.int .u16 x] 23)) w' → VD W w' g bd br bm kv F { v with D := v.D ++ [x] } := fun w' a1 a2 =>
      At.kd h (at_below hb a2) a1 fun q hq => by
        rcases List.mem_append.1 hq with hq | hq
        · exact h.wf.d q hq
        · simp at hq; subst hq; exact hx
    clear h hb hs ht q1 o1
    rcases ho with rfl | rfl
    all_goals
      go_enter Tryz.func89, Tryz.ntmps89
      go_wp2_with fail
      refine hp.mono ?_
      rintro e w1 ⟨rfl, a1, a2⟩
      have hf := hv _ a1 a2
      clear a1 a2 hv hp
      go_wp2
      go_ret2
      exact ⟨rfl, hf⟩
theorem dn_lead (op : Int) (ho : op = 1 ∨ op = 5 ∨ op = 7) (x be : Int) (v : VS) : dn op x be v = if (lead op be v).b then ⟨x, 0, (lead op be v).v⟩ else ⟨be, (lead op be v).f, (lead op be v).v⟩ := by
  rcases ho with rfl | rfl | rfl
  · unfold dn lead; simp only
    split <;> rfl
  · unfold dn lead; simp only
    cases v.D.reverse with
    | nil => rfl
    | cons a t =>
      by_cases q : a = 0
      · simp [q]
      · simp [q]
  · rfl
theorem lead_f (op : Int) (ho : op = 1 ∨ op = 5 ∨ op = 7) (be : Int) (v : VS) (W : World) (g bd br bm : Nat) (kv : Value) (F : Nat → Prop) (hbe : C.C be) (h : MV W g bd br bm kv F v) :
    Calls Tryz.prog 120 #[.pointer (some ⟨g, 0, none⟩), .int .i64 op, .int .u16 be] W fun e W' => e = .returned (.tuple #[.bool (lead op be v).b, .int .i64 (lead op be v).f]) ∧ VD W W' g bd br bm kv F (lead op be v).v := by
  rcases ho with rfl | rfl | rfl
  · exact leads1 g bd br bm kv F v be hbe W h
  · exact leads5 g bd br bm kv F v be W h
  · exact leads7 g bd br bm kv F v be W h
theorem done_lead (op : Int) (ho : op = 1 ∨ op = 5 ∨ op = 7) (x be : Int) (hbe : C.C be) (v : VS) (g bd br bm : Nat) (kv : Value) (F : Nat → Prop) (W : World) (h : MV W g bd br bm kv F v) : DnO op x be v g bd br bm kv F W := by
  unfold DnO
  have hn := lead_f op ho be v W g bd br bm kv F hbe h
  have hd := dn_lead op ho x be v
  generalize dn op x be v = d at *
  generalize lead op be v = t at *
  obtain ⟨b, f, v'⟩ := t
  simp only at hn hd
  clear h
  cases b with
  | true =>
    rw [if_pos rfl] at hd
    subst hd
    rcases ho with rfl | rfl | rfl
    all_goals
      go_enter Tryz.func89, Tryz.ntmps89
      go_wp2_with fail
      refine hn.mono ?_
      rintro e w1 ⟨rfl, hf⟩
      clear hn
      go_wp2
      go_ret2
      exact ⟨rfl, hf⟩
  | false =>
    rw [if_neg (by simp)] at hd
    subst hd
    rcases ho with rfl | rfl | rfl
    all_goals
      go_enter Tryz.func89, Tryz.ntmps89
      go_wp2_with fail
      refine hn.mono ?_
      rintro e w1 ⟨rfl, hf⟩
      clear hn
      go_wp2
      go_ret2
      exact ⟨rfl, hf⟩
theorem done_plain (op : Int) (hp : P.plain op = true) (x be : Int) (v : VS) (ht : v.m.tones.length ≤ 999000) (g bd br bm : Nat) (kv : Value) (F : Nat → Prop) (W : World) (h : MV W g bd br bm kv F v) : DnO op x be v g bd br bm kv F W := by
  unfold DnO
  rw [dn_pl op x be v hp]
  have hk : h = h := rfl
  have hw : Below W.heap.size W W.drew := ⟨rfl, rfl, rfl, Nat.le_refl _, fun _ _ => rfl⟩
  have hM := h.below hw
  have hdo := P.do_any op hp bd br bm F v.D v.R v.m h.wf.d ht W.drew hM.ps
  have hv : ∀ w', (P.fl op v.D v.R ≠ 0 → Below W.drew.heap.size W.drew w') ∧ (P.fl op v.D v.R = 0 → P.PD W.drew w' bd br bm F (P.nD op v.D v.R v.m) (P.nR op v.D v.R) (P.nM op v.D v.m)) → VD W w' g bd br bm kv F (pl op be v).v := by
    intro w' ⟨k1, k2⟩
    unfold pl
    by_cases q : P.fl op v.D v.R = 0
    · simp only [q, if_true]
      have := h.goes (W' := w') (pd_drew (k2 q)) (nD_C op h.wf.d h.wf.r h.ps.m.wf) (nR_C op h.wf.d h.wf.r)
      exact this
    · simp only [q, if_false]
      exact h.same (bel_drew (k1 q))
  have ef : (pl op be v).f = P.fl op v.D v.R := rfl
  have eo : (pl op be v).on = be := rfl
  rw [ef, eo]
  have o : ∀ k : Int, k = 10 ∨ k = 8 ∨ k = 11 ∨ k = 2 ∨ k = 3 ∨ k = 1 ∨ k = 5 ∨ k = 7 ∨ k = 4 → (op == k) = false := by
    intro k hk
    unfold P.plain at hp
    simp only [Bool.or_eq_true, Bool.and_eq_true, beq_iff_eq, decide_eq_true_eq] at hp
    rw [beq_eq_false_iff_ne]; omega
  have o10 := o 10 (by decide)
  have o8 := o 8 (by decide)
  have o11 := o 11 (by decide)
  have o2 := o 2 (by decide)
  have o3 := o 3 (by decide)
  have o1 := o 1 (by decide)
  have o5 := o 5 (by decide)
  have o7 := o 7 (by decide)
  have o4 := o 4 (by decide)
  have s0 := And.intro hM.c3 (And.intro hM.c4 hM.c6)
  generalize P.fl op v.D v.R = fl at *
  have HV := S.hid hv
  clear h hk hM hw hv ef eo o ht hp
  go_enter Tryz.func89, Tryz.ntmps89
  go_wp2_with fail
  go_region_held (fun w' => w'.cell? ⟨g, 3, none⟩ = some (.pointer (some ⟨bd, 0, none⟩)) ∧ w'.cell? ⟨g, 4, none⟩ = some (.pointer (some ⟨br, 0, none⟩)) ∧ w'.cell? ⟨g, 6, none⟩ = some (.pointer (some ⟨bm, 0, none⟩)))
    (first | (with_reducible exact s0) | (with_reducible exact s1))
    (first | (go_at_call 121; refine hdo.mono ?_; rintro e q1 ⟨rfl, hE⟩; have hF := HV.out q1 hE; have s1 := And.intro hF.s.c3 (And.intro hF.s.c4 hF.s.c6)))
  have HF := S.hid hF
  clear hE hF s0 s1 HV hdo
  go_wp2
  go_ret2
  exact ⟨rfl, HF.out⟩
theorem done_any (op : Nat) (h1 : 1 ≤ op) (h2 : op < 64) (x be : Int) (hx : C.C x) (hbe : C.C be) (v : VS) (ht : v.m.tones.length ≤ 999000) (g bd br bm : Nat) (kv : Value) (F : Nat → Prop) (W : World) (h : MV W g bd br bm kv F v) : DnO (op : Int) x be v g bd br bm kv F W := by
  by_cases a1 : op = 1 ∨ op = 5 ∨ op = 7
  · exact done_lead op (by omega) x be hbe v g bd br bm kv F W h
  by_cases a2 : op = 2 ∨ op = 3
  · exact done_push op (by omega) x be hx v g bd br bm kv F W h
  by_cases a3 : op = 4
  · subst a3; exact done_4 x be v g bd br bm kv F W h
  by_cases a4 : op = 8
  · subst a4; exact done_8 x be v g bd br bm kv F W h
  by_cases a5 : op = 10
  · subst a5; exact done_10 x be v g bd br bm kv F W h
  by_cases a6 : op = 11
  · subst a6; exact done_11 x be v g bd br bm kv F W h
  refine done_plain op ?_ x be v ht g bd br bm kv F W h
  unfold P.plain
  simp only [Bool.or_eq_true, Bool.and_eq_true, beq_iff_eq, decide_eq_true_eq]
  omega
theorem dn_pc (op x be : Int) (v : VS) : (dn op x be v).v.pc = v.pc := by
  unfold dn
  split
  · split <;> rfl
  · split <;> rfl
  · split <;> rfl
  · rfl
  · split <;> rfl
  · have : (turn v).v.pc = v.pc := by
      unfold turn
      split
      · rfl
      · split
        · rfl
        · split
          · rfl
          · split
            · rfl
            · split <;> rfl
    split <;> exact this
  · split
    · rfl
    · split <;> rfl
  · rfl
  · rfl
  · unfold pl; simp only; split <;> rfl
theorem VD.set0 {W W1 : World} {g bd br bm : Nat} {kv : Value} {F : Nat → Prop} {v v1 : VS} (h : VD W W1 g bd br bm kv F v1) (h0 : MV W g bd br bm kv F v) (on : Int) (hon : C.C on) :
    VD W (W1.setCell ⟨g, 0, none⟩ (.int .u16 on)) g bd br bm kv F { v1 with pc := on } := by
  have k := h.s.set (v' := { v1 with pc := on }) 0 (.int .u16 on) rfl rfl rfl rfl rfl ⟨hon.1, hon.2, h.s.wf.d, h.s.wf.r⟩
  refine ⟨?_, h.t.setCell g 0 (.inl rfl) _⟩
  have e : M.gr F W (W1.setCell ⟨g, 0, none⟩ (.int .u16 on)) = M.gr F W W1 := by unfold M.gr; rw [S.setCell_size]
  rw [e]; exact k
/-- With a fault nothing has changed. -/
theorem turn_same (v : VS) : (turn v).f ≠ 0 → (turn v).v = v := by
  unfold turn
  split
  · intro _; rfl
  · split
    · intro _; rfl
    · split
      · intro _; rfl
      · split
        · intro _; rfl
        · split
          · intro h; exact absurd rfl h
          · intro h; exact absurd rfl h
theorem dn_same (op x be : Int) (v : VS) : (dn op x be v).f ≠ 0 → (dn op x be v).v = v := by
  unfold dn
  split
  · split
    · intro _; rfl
    · intro h; exact absurd rfl h
  · split
    · intro _; rfl
    · intro h; exact absurd rfl h
  · split
    · intro _; rfl
    · intro h; exact absurd rfl h
  · intro h; exact absurd rfl h
  · split
    · intro _; rfl
    · intro h; exact absurd rfl h
  · split
    · intro h; exact absurd rfl h
    · intro h; exact turn_same v h
  · split
    · intro h; exact absurd rfl h
    · split
      · intro h; exact absurd rfl h
      · intro _; rfl
  · intro h; exact absurd rfl h
  · intro h; exact absurd rfl h
  · intro h
    unfold pl at h ⊢
    simp only at h ⊢
    rw [if_neg h]
theorem dn_on_C (op x be : Int) (v : VS) (hx : C.C x) (hbe : C.C be) (hr : ∀ q ∈ v.R, C.C q.2) : C.C (dn op x be v).on := by
  have z : C.C 0 := ⟨by omega, by omega⟩
  unfold dn
  split
  · split <;> assumption
  · split <;> assumption
  · split <;> assumption
  · assumption
  · split
    · assumption
    · simp only; split <;> assumption
  · split <;> assumption
  · split
    · assumption
    · rename_i k a t e
      split
      · simp only; exact hr (k, a) (by have := congrArg List.reverse e; rw [List.reverse_reverse] at this; rw [this]; simp)
      · assumption
  · assumption
  · assumption
  · unfold pl; assumption
theorem do_any (op : Nat) (h1 : 1 ≤ op) (h2 : op < 64) (x : Int) (hx : C.C x) (v : VS) (ht : v.m.tones.length ≤ 999000) (g bd br bm : Nat) (kv : Value) (F : Nat → Prop) (W : World) (h : MV W g bd br bm kv F v) :
    Calls Tryz.prog 49 #[.pointer (some ⟨g, 0, none⟩), P.rowN op, .int .u16 x] W fun e W' => e = .returned (.int .i64 (doo op x v).1) ∧ VD W W' g bd br bm kv F (doo op x v).2 := by
  obtain ⟨W1, hW1⟩ : ∃ W1, W1 = W.alloc (.cells #[.int .i64 (op : Int), .string (P.nm op), .int .i64 (P.ri op), .int .i64 (P.ro op), .int .i64 (P.rc op), .bool (P.rb op)] 49) := ⟨_, rfl⟩
  have hB : Below W.heap.size W W1 := by rw [hW1]; exact P.bel_alloc W _
  have hz := heap_alloc_new W (.cells #[.int .i64 (op : Int), .string (P.nm op), .int .i64 (P.ri op), .int .i64 (P.ro op), .int .i64 (P.rc op), .bool (P.rb op)] 49)
  rw [← hW1] at hz
  have z0 : W1.cell? ⟨W.heap.size, 0, none⟩ = some (.int .i64 (op : Int)) := S.cell_of W1 _ 0 [.int .i64 (op : Int), .string (P.nm op), .int .i64 (P.ri op), .int .i64 (P.ro op), .int .i64 (P.rc op), .bool (P.rb op)] _ _ hz rfl
  have z5 : W1.cell? ⟨W.heap.size, 5, none⟩ = some (.bool (P.rb op)) := S.cell_of W1 _ 5 [.int .i64 (op : Int), .string (P.nm op), .int .i64 (P.ri op), .int .i64 (P.ro op), .int .i64 (P.rc op), .bool (P.rb op)] _ _ hz rfl
  have hM := h.below hB
  have c0 := hM.c0
  have hbe : C.C (beh v.pc op) := by unfold beh; split <;> exact rng _
  have kd := done_any op h1 h2 x (beh v.pc op) hx hbe v ht g bd br bm kv F W1 hM
  unfold DnO at kd
  have hsame := dn_same op x (beh v.pc op) v
  have hon := dn_on_C op x (beh v.pc op) v hx hbe h.wf.r
  have e1 := u16_2 v.pc
  have e2 : IntKind.u16.wrap ((v.pc + 2) % 65536 + 2) = (v.pc + 4) % 65536 := by rw [M.u16_wrap]; omega
  have hV : ∀ w', VD W1 w' g bd br bm kv F (dn op x (beh v.pc op) v).v → VD W w' g bd br bm kv F (dn op x (beh v.pc op) v).v := fun w' k =>
    VD.pre h hB k
  have hD : doo op x v = ((dn op x (beh v.pc op) v).f, if (dn op x (beh v.pc op) v).f = 0 then { (dn op x (beh v.pc op) v).v with pc := (dn op x (beh v.pc op) v).on } else v) := rfl
  rw [hD]
  generalize hdd : dn op x (beh v.pc op) v = d at *
  have hpc : d.v.pc = v.pc ∧ True := ⟨by rw [← hdd]; exact dn_pc op x (beh v.pc op) v, trivial⟩
  obtain ⟨on, f, v'⟩ := d
  simp only at *
  obtain ⟨vv, hvv⟩ : ∃ vv, vv = (if f = 0 then { v' with pc := on } else v) := ⟨_, rfl⟩
  rw [← hvv]
  have HVV := S.hid hvv
  clear hvv
  unfold P.rowN P.rowV
  have hbeh : beh v.pc op = if P.rb op then (v.pc + 4) % 65536 else (v.pc + 2) % 65536 := rfl
  rw [hbeh] at kd
  have HV := S.hid hV
  have HS := S.hid hsame
  have HO := S.hid hon
  have H0 := S.hid h
  clear hV hsame hon h hM hbe hD hdd hz hbeh
  by_cases q1 : P.rb op = true
  · rw [if_pos q1] at kd
    rw [q1] at z5 hW1 ⊢
    subst hW1
    go_enter Tryz.func49, Tryz.ntmps49
    go_wp2_with fail
    refine kd.mono ?_
    rintro e w1 ⟨rfl, hf⟩
    have hF := HV.out w1 hf
    by_cases q2 : f = 0
    · subst q2
      have e : vv = { v' with pc := on } := by rw [HVV.out, if_pos rfl]
      subst e
      have c0' := hF.s.c0
      have zf := fz hF.s 0
      have hfin := hF.set0 H0.out on HO.out
      have HF := S.hid hfin
      clear hF hf kd hfin
      go_wp2
      go_ret
      exact ⟨rfl, HF.out⟩
    · have e : vv = v := by rw [HVV.out, if_neg q2]
      subst e
      have q2' : (f == 0) = false := by simpa using q2
      rw [HS.out q2] at hF
      have HF := S.hid hF
      clear hF hf kd
      go_wp2
      go_ret
      exact ⟨rfl, HF.out⟩
  · have q1' : P.rb op = false := by simpa using q1
    rw [if_neg q1] at kd
    rw [q1'] at z5 hW1 ⊢
    subst hW1
    go_enter Tryz.func49, Tryz.ntmps49
    go_wp2_with fail
    refine kd.mono ?_
    rintro e w1 ⟨rfl, hf⟩
    have hF := HV.out w1 hf
    by_cases q2 : f = 0
    · subst q2
      have e : vv = { v' with pc := on } := by rw [HVV.out, if_pos rfl]
      subst e
      have c0' := hF.s.c0
      have zf := fz hF.s 0
      have hfin := hF.set0 H0.out on HO.out
      have HF := S.hid hfin
      clear hF hf kd hfin
      go_wp2
      go_ret
      exact ⟨rfl, HF.out⟩
    · have e : vv = v := by rw [HVV.out, if_neg q2]
      subst e
      have q2' : (f == 0) = false := by simpa using q2
      rw [HS.out q2] at hF
      have HF := S.hid hF
      clear hF hf kd
      go_wp2
      go_ret
      exact ⟨rfl, HF.out⟩
end Go.Proofs.YteldjmecomngeaaGreat.V
/-! Step, and a frame's work. -/
namespace Go.Proofs.YteldjmecomngeaaGreat.V
open Go.RowKit
open Go.Proofs
set_option linter.unusedVariables false
set_option linter.unusedSimpArgs false
set_option maxHeartbeats 2000000
set_option maxRecDepth 100000
/-! ### Tones -/
theorem st_tones (m : M.MS) (z : Int) (x : UInt8) : (M.st m z x).tones.length ≤ m.tones.length + 1 := by
  unfold M.st
  split
  · omega
  · split
    · split <;> simp
    · split
      · simp
      · split
        · simp
        · unfold M.stp
          split
          · simp
          · split
            · simp
            · split
              · simp
              · split <;> simp
theorem mem_tones (op x y z : Int) (m : M.MS) : (P.memN op x y z m).tones.length ≤ m.tones.length + 3 := by
  have sc : ∀ (m : M.MS) (a b : Int), (M.sc m a b).tones.length ≤ m.tones.length + 2 := fun m a b => by
    have h1 := st_tones (M.st m a (M.b8 b)) ((a + 1) % 65536) (M.b8 (b / 256))
    have h2 := st_tones m a (M.b8 b)
    unfold M.sc; omega
  unfold P.memN
  split
  · have := sc m y x; omega
  · have := st_tones m y (M.b8 x); omega
  · have := sc m y ((M.cl m y + x) % 65536); omega
  · unfold M.plt
    split
    · have := st_tones m (49152 + 64 * y + x) (M.b8 z); omega
    · omega
  · have h1 := st_tones (M.sc m 65284 x) 65286 (M.b8 y)
    have h2 := sc m 65284 x
    omega
  · have := st_tones m 65280 (M.b8 x); omega
  · omega
theorem turn_m (v : VS) : (turn v).v.m = v.m := by
  unfold turn
  split
  · rfl
  · split
    · rfl
    · split
      · rfl
      · split
        · rfl
        · split <;> rfl
theorem dn_tones (op x be : Int) (v : VS) : (dn op x be v).v.m.tones.length ≤ v.m.tones.length + 3 := by
  unfold dn
  split
  · split <;> simp
  · split <;> simp
  · split <;> simp
  · simp
  · split <;> simp
  · split <;> simp [turn_m]
  · split
    · simp
    · split <;> simp
  · simp
  · simp
  · unfold pl; simp only
    split
    · exact mem_tones _ _ _ _ _
    · omega
theorem doo_tones (op : Nat) (x : Int) (v : VS) : (doo op x v).2.m.tones.length ≤ v.m.tones.length + 3 := by
  unfold doo; simp only
  split
  · exact dn_tones _ _ _ _
  · omega
/-! ### What is looked at -/
theorem opd_C {c : List UInt8} {pc w : Int} {op : Nat} {x : Int} (h : opd c pc w op = some x) : C.C x := by
  unfold opd at h
  split at h
  · exact cel_r h
  · split at h
    · exact cel_r h
    · split at h
      · cases h; exact rng _
      · cases h; exact ⟨by omega, by omega⟩
theorem look_ok (v : VS) (hs : v.st = 1) : (look v).f = 0 → 1 ≤ (look v).op ∧ (look v).op < 64 ∧ C.C (look v).x := by
  unfold look look0 look1 look2
  rw [if_pos hs]
  split
  · intro h; exact absurd h (by decide)
  · split
    · intro h; exact absurd h (by decide)
    · rename_i op _
      by_cases q : op < 1 ∨ 64 ≤ op
      · rw [if_pos q]; intro h; exact absurd h (by decide)
      · rw [if_neg q]
        split
        · intro h; exact absurd h (by decide)
        · rename_i ho
          intro _
          exact ⟨by simp only; omega, by simp only; omega, opd_C ho⟩
theorem look_no (v : VS) : (look v).f ≠ 0 → (look v).op = 0 := by
  unfold look look0 look1 look2
  split
  · split
    · intro _; rfl
    · split
      · intro _; rfl
      · split
        · intro _; rfl
        · split
          · intro _; rfl
          · intro h; exact absurd rfl h
  · intro h; exact absurd rfl h
/-! ### Step -/
def zP : Obj := .cells #[.int .i64 0, .string { data := #[] }, .int .i64 0, .int .i64 0, .int .i64 0, .bool false] 49
def prC (op : Nat) : Array Value := if op = 0 then #[.int .i64 0, .string ⟨#[]⟩, .int .i64 0, .int .i64 0, .int .i64 0, .bool false] else #[.int .i64 (op : Int), .string (P.nm op), .int .i64 (P.ri op), .int .i64 (P.ro op), .int .i64 (P.rc op), .bool (P.rb op)]
/-- A row that was looked at, in a block of its own. -/
theorem made1 (w1 : World) (c : Array Value) :
    (w1.alloc (.cells #[.int .i64 0, .string { data := #[] }, .int .i64 0, .int .i64 0, .int .i64 0, .bool false] 49)).heap[w1.heap.size]? = some (.cells P.zR 49 (0, 0)) ∧
    ((w1.alloc (.cells #[.int .i64 0, .string { data := #[] }, .int .i64 0, .int .i64 0, .int .i64 0, .bool false] 49)).setRow w1.heap.size c).heap[w1.heap.size]? = some (.cells c 49 (0, 0)) ∧
    Below w1.heap.size w1 ((w1.alloc (.cells #[.int .i64 0, .string { data := #[] }, .int .i64 0, .int .i64 0, .int .i64 0, .bool false] 49)).setRow w1.heap.size c) := by
  have a1 := heap_alloc_new w1 (.cells #[.int .i64 0, .string { data := #[] }, .int .i64 0, .int .i64 0, .int .i64 0, .bool false] 49)
  have a2 := P.bel_alloc w1 (.cells #[.int .i64 0, .string { data := #[] }, .int .i64 0, .int .i64 0, .int .i64 0, .bool false] 49)
  exact ⟨a1, setRow_heap _ _ _ _ _ _ a1, P.Below.setRow a2 w1.heap.size (Nat.le_refl _) c⟩
theorem step_any (v : VS) (ht : v.m.tones.length ≤ 999000) (g bd br bm : Nat) (kv : Value) (F : Nat → Prop) (W : World) (h : MV W g bd br bm kv F v) :
    Calls Tryz.prog 16 #[.pointer (some ⟨g, 0, none⟩)] W fun e W' => e = .returned (.bool (step v).1) ∧ VD W W' g bd br bm kv F (step v).2 := by
  have c1 := h.c1
  have hL := look_any g bd br bm kv F v W h
  by_cases q1 : v.st = 1
  case neg =>
    have e : step v = (false, v) := by unfold step; rw [if_neg q1]
    rw [e]
    have e1 : (v.st != 1) = true := by simpa using q1
    have hv := h.same (Below.refl _ W)
    clear h hL
    go_enter Tryz.func16, Tryz.ntmps16
    go_wp2
    go_ret
    exact ⟨rfl, hv⟩
  have e1 : (v.st != 1) = false := by simpa using q1
  obtain ⟨R, hR⟩ : ∃ R, R = step v := ⟨_, rfl⟩
  rw [← hR]
  have HR := S.hid hR
  have H0 := S.hid h
  by_cases q2 : (look v).f = 0
  case neg =>
    have e : R = (false, fail (look v).f v) := by rw [HR.out]; unfold step; rw [if_pos q1, if_neg q2]
    subst e
    have ep : prV (look v).op = P.rowV 0 ⟨#[]⟩ 0 0 0 false := by rw [look_no v q2]; rfl
    rw [ep] at hL
    unfold P.rowV at hL
    have f1 : ((look v).f == 0) = false := by simpa using q2
    have f2 : ((look v).f != 0) = true := by simpa using q2
    generalize (look v).f = f at *
    generalize (look v).x = x at *
    clear h hR HR ep
    go_enter Tryz.func16, Tryz.ntmps16
    go_wp2_with fail
    refine hL.mono ?_
    rintro e w1 ⟨rfl, h1⟩
    obtain ⟨az, ar, aB⟩ := made1 w1 #[.int .i64 0, .string { data := #[] }, .int .i64 0, .int .i64 0, .int .i64 0, .bool false]
    have hB := trB h1 aB h1.size
    have hM := H0.out.below hB
    have kf := fail_any g bd br bm kv F v f _ hM
    clear hL h1 aB hM c1
    go_wp2_with (refine wpList_store_row rfl 49 _ _ rfl w1.heap.size _ rfl rfl 49 P.zR az (by exact P.sizeR) (by rfl) (by simp [Value.oneCell']) ?_)
    refine kf.mono ?_
    rintro e w2 ⟨rfl, hf⟩
    have hF := S.hid (VD.pre H0.out hB hf)
    clear kf hf hB az ar
    go_wp2
    go_ret
    exact ⟨rfl, hF.out⟩
  obtain ⟨o1, o2, hx⟩ := look_ok v q1 q2
  have ep : prV (look v).op = P.rowN (look v).op := by rw [prV, if_neg (by omega)]
  have hRR : R = if (doo (look v).op (look v).x v).1 = 0 then ((look v).op == 10, (doo (look v).op (look v).x v).2) else (false, fail (doo (look v).op (look v).x v).1 v) := by rw [HR.out]; unfold step; rw [if_pos q1, if_pos q2]
  have HRR := S.hid hRR
  rw [ep, q2] at hL
  unfold P.rowN P.rowV at hL
  generalize (look v).op = op at *
  generalize (look v).x = x at *
  have hsm : (doo op x v).1 ≠ 0 → (doo op x v).2 = v := fun hne => by unfold doo at hne ⊢; simp only at hne ⊢; rw [if_neg hne]
  have HSM := S.hid hsm
  have HX := S.hid (show 1 ≤ op ∧ op < 64 ∧ C.C x from ⟨o1, o2, hx⟩)
  clear h hR HR ep hRR hsm o1 o2 hx
  go_enter Tryz.func16, Tryz.ntmps16
  go_wp2_with fail
  refine hL.mono ?_
  rintro e w1 ⟨rfl, h1⟩
  obtain ⟨az, ar, aB⟩ := made1 w1 #[.int .i64 (op : Int), .string (P.nm op), .int .i64 (P.ri op), .int .i64 (P.ro op), .int .i64 (P.rc op), .bool (P.rb op)]
  have hB := trB h1 aB h1.size
  have hM := H0.out.below hB
  have kd := do_any op HX.out.1 HX.out.2.1 x HX.out.2.2 v ht g bd br bm kv F _ hM
  unfold P.rowN P.rowV at kd
  have HM := S.hid hM
  have HB := S.hid hB
  have h1s := h1.size
  clear hL h1 aB hM c1 hB
  go_wp2_with (first
    | (refine wpList_store_row rfl 49 _ _ rfl w1.heap.size _ rfl rfl 49 P.zR az (by exact P.sizeR) (by rfl) (by simp [Value.oneCell']) ?_)
    | (refine wpList_load_row rfl 49 _ rfl w1.heap.size rfl 49 _ (0, 0) _ ar Tryz.underlying49 rfl (by exact P.sizeR) ?_))
  refine kd.mono ?_
  rintro e w2 ⟨rfl, hf⟩
  have hF := VD.pre H0.out HB.out hf
  have r0 : w2.cell? ⟨w1.heap.size, 0, none⟩ = some (.int .i64 (op : Int)) := S.cell_of w2 _ 0 [.int .i64 (op : Int), .string (P.nm op), .int .i64 (P.ri op), .int .i64 (P.ro op), .int .i64 (P.rc op), .bool (P.rb op)] _ _ ((hf.other H0.out HB.out.size w1.heap.size h1s (S.lt_of ar)).trans ar) rfl
  clear kd az ar hf
  by_cases q3 : (doo op x v).1 = 0
  · have e : R = ((op == 10), (doo op x v).2) := by rw [HRR.out, if_pos q3]
    subst e
    rw [q3]
    have eo : ((op : Int) == 10) = (op == 10) := by
      by_cases q : op = 10
      · subst q; rfl
      · rw [beq_eq_false_iff_ne.2 q, beq_eq_false_iff_ne.2 (by omega)]
    have HF := S.hid hF
    clear hF q3 HRR HSM
    go_wp2
    go_ret
    first | exact ⟨rfl, HF.out⟩ | exact ⟨by rw [eo], HF.out⟩
  · have e : R = (false, fail (doo op x v).1 v) := by rw [HRR.out, if_neg q3]
    subst e
    rw [HSM.out q3] at hF
    have f2 : ((doo op x v).1 != 0) = true := by simpa using q3
    have kf := fail_any g bd br bm kv _ v (doo op x v).1 w2 hF.s
    have HF := S.hid hF
    clear hF HRR HSM r0
    go_wp2_with fail
    refine kf.mono ?_
    rintro e w3 ⟨rfl, hf⟩
    have HG := S.hid (VD.trans H0.out HF.out hf)
    clear kf hf HF
    go_wp2
    go_ret
    exact ⟨rfl, HG.out⟩
end Go.Proofs.YteldjmecomngeaaGreat.V
/-! A frame's work. -/
namespace Go.Proofs.YteldjmecomngeaaGreat.V
open Go.RowKit
open Go.Proofs
set_option linter.unusedVariables false
set_option linter.unusedSimpArgs false
set_option maxHeartbeats 2000000
set_option maxRecDepth 100000
theorem rc_r (op : Nat) : 1 ≤ P.rc op ∧ P.rc op ≤ 4 := by
  unfold P.rc
  split <;> decide
theorem wk_end (k : Nat) (B : Int) (v : VS) (n s : Int) (h : ¬ (v.st = 1 ∧ s < B)) : wk k B v n s = ⟨v, n, s⟩ := by
  cases k with
  | zero => rfl
  | succ k => unfold wk; rw [if_neg h]
/-- The loop's relation. -/
structure WI (W wr : World) (g bd br bm : Nat) (kv : Value) (F : Nat → Prop) (B : Int) (v : VS) (k : Nat) (u : VS) (n s : Int) : Prop where
  n0 : 0 ≤ n
  ns : n ≤ s
  sB : s ≤ B
  kk : B - s ≤ (k : Int)
  eq : wk B.toNat B v 0 0 = wk k B u n s
  d : VD W wr g bd br bm kv F u
  t : (u.m.tones.length : Int) ≤ 100000 + 3 * n
theorem work_any (v : VS) (B : Int) (hB0 : 4 ≤ B) (hB1 : B ≤ 16384) (ht : v.m.tones.length ≤ 100000) (g bd br bm : Nat) (kv : Value) (F : Nat → Prop) (W : World) (h : MV W g bd br bm kv F v) :
    Calls Tryz.prog 43 #[.pointer (some ⟨g, 0, none⟩), .int .i64 B] W fun e W' => e = .returned (.tuple #[.int .i64 (wk B.toNat B v 0 0).steps, .int .i64 (wk B.toNat B v 0 0).spent]) ∧ VD W W' g bd br bm kv F (wk B.toNat B v 0 0).v := by
  have I0 : WI W W g bd br bm kv F B v B.toNat v 0 0 := ⟨by omega, by omega, by omega, by omega, rfl, h.same (Below.refl _ W), by omega⟩
  obtain ⟨R, hR⟩ : ∃ R, R = wk B.toNat B v 0 0 := ⟨_, rfl⟩
  rw [← hR]
  have HI := S.hid I0
  have HR := S.hid hR
  have H0 := S.hid h
  clear h I0 hR ht
  go_enter Tryz.func43, Tryz.ntmps43
  go_wp2
  go_loopw [4, 5] (fun a b wr => ∃ (k : Nat) (u : VS) (n s : Int), a = .int .i64 n ∧ b = .int .i64 s ∧ WI W wr g bd br bm kv F B v k u n s) (fun _ b _ => (B - intOf b).toNat)
  case atStart => exact ⟨B.toNat, v, 0, 0, rfl, rfl, HI.out⟩
  case round =>
    obtain ⟨k, u, n, s, rfl, rfl, I⟩ := hrel
    clear HI
    have c1 := I.d.s.c1
    have HI := S.hid I
    by_cases q : u.st = 1 ∧ s < B
    case neg =>
      have e : R = ⟨u, n, s⟩ := by rw [HR.out, HI.out.eq, wk_end k B u n s q]
      subst e
      clear I
      by_cases q1 : u.st = 1
      · have e1 : (u.st == 1) = true := by simpa using q1
        have e2 : decide (s < B) = false := decide_eq_false (fun c => q ⟨q1, c⟩)
        go_wp2
        go_ret2
        exact ⟨rfl, HI.out.d⟩
      · have e1 : (u.st == 1) = false := by simpa using q1
        go_wp2
        go_ret2
        exact ⟨rfl, HI.out.d⟩
    obtain ⟨q1, q2⟩ := q
    have e1 : (u.st == 1) = true := by simpa using q1
    have e2 : decide (s < B) = true := decide_eq_true q2
    have hL := look_any g bd br bm kv _ u wr I.d.s
    have hk : ∃ k', k = k' + 1 := ⟨k - 1, by have := I.kk; omega⟩
    obtain ⟨k', rfl⟩ := hk
    have hwk : R = wk (k' + 1) B u n s := by rw [HR.out, I.eq]
    unfold wk at hwk
    rw [if_pos ⟨q1, q2⟩] at hwk
    have HW := S.hid hwk
    by_cases q3 : (look u).f = 0
    case neg =>
      have e : R = ⟨fail (look u).f u, n, s⟩ := by rw [HW.out, if_neg q3]
      subst e
      have ep : prV (look u).op = P.rowV 0 ⟨#[]⟩ 0 0 0 false := by rw [look_no u q3]; rfl
      rw [ep] at hL
      unfold P.rowV at hL
      have f1 : ((look u).f == 0) = false := by simpa using q3
      have f2 : ((look u).f != 0) = true := by simpa using q3
      clear I hwk HW HR ep
      go_wp2_with fail
      refine hL.mono ?_
      rintro e w1 ⟨rfl, h1⟩
      obtain ⟨az, ar, aB⟩ := made1 w1 #[.int .i64 0, .string { data := #[] }, .int .i64 0, .int .i64 0, .int .i64 0, .bool false]
      have hB := trB h1 aB h1.size
      have hM := HI.out.d.s.below hB
      have kf := fail_any g bd br bm kv _ u (look u).f _ hM
      have HB := S.hid hB
      clear hL h1 aB hM c1 hB
      go_wp2_with (refine wpList_store_row rfl 49 _ _ rfl w1.heap.size _ rfl rfl 49 P.zR az (by exact P.sizeR) (by rfl) (by simp [Value.oneCell']) ?_)
      refine kf.mono ?_
      rintro e w2 ⟨rfl, hf⟩
      have HG := S.hid (VD.trans H0.out HI.out.d (VD.pre HI.out.d.s HB.out hf))
      clear kf hf az ar HB
      go_wp2
      go_ret2
      exact ⟨rfl, HG.out⟩
    rw [if_pos q3] at hwk
    obtain ⟨o1, o2, hx⟩ := look_ok u q1 q3
    have ep : prV (look u).op = P.rowN (look u).op := by rw [prV, if_neg (by omega)]
    rw [ep, q3] at hL
    unfold P.rowN P.rowV at hL
    generalize (look u).op = op at *
    generalize (look u).x = x at *
    have hrc := rc_r op
    have HW := S.hid hwk
    have HX := S.hid (show 1 ≤ op ∧ op < 64 ∧ C.C x from ⟨o1, o2, hx⟩)
    have HI := S.hid I
    have w1' : wrap64 (B - s) = B - s := by have := I.n0; have := I.ns; simp [wrap64]; omega
    clear I hwk ep o1 o2 hx
    by_cases q4 : B - s < P.rc op
    · have e : R = ⟨u, n, s⟩ := by rw [HW.out, if_pos q4]
      subst e
      have e3 : decide (B - s < P.rc op) = true := decide_eq_true q4
      clear HW HR
      go_wp2_with fail
      refine hL.mono ?_
      rintro e w1 ⟨rfl, h1⟩
      obtain ⟨az, ar, aB⟩ := made1 w1 #[.int .i64 (op : Int), .string (P.nm op), .int .i64 (P.ri op), .int .i64 (P.ro op), .int .i64 (P.rc op), .bool (P.rb op)]
      have hB := trB h1 aB h1.size
      have r4 := S.cell_of _ _ 4 [.int .i64 (op : Int), .string (P.nm op), .int .i64 (P.ri op), .int .i64 (P.ro op), .int .i64 (P.rc op), .bool (P.rb op)] _ _ ar rfl
      have HG := S.hid (VD.trans H0.out HI.out.d (HI.out.d.s.same hB))
      clear hL h1 aB c1 hB hrc
      go_wp2_with (refine wpList_store_row rfl 49 _ _ rfl w1.heap.size _ rfl rfl 49 P.zR az (by exact P.sizeR) (by rfl) (by simp [Value.oneCell']) ?_)
      go_ret2
      exact ⟨rfl, HG.out⟩
    have e3 : decide (B - s < P.rc op) = false := decide_eq_false q4
    have hwk := HW.out
    rw [if_neg q4] at hwk
    clear HW
    have HW := S.hid hwk
    clear hwk
    have htn := fun m => doo_tones op x m
    go_wp2_with fail
    refine hL.mono ?_
    rintro e w1 ⟨rfl, h1⟩
    obtain ⟨az, ar, aB⟩ := made1 w1 #[.int .i64 (op : Int), .string (P.nm op), .int .i64 (P.ri op), .int .i64 (P.ro op), .int .i64 (P.rc op), .bool (P.rb op)]
    have hB := trB h1 aB h1.size
    have h1s := h1.size
    have r4 := S.cell_of _ _ 4 [.int .i64 (op : Int), .string (P.nm op), .int .i64 (P.ri op), .int .i64 (P.ro op), .int .i64 (P.rc op), .bool (P.rb op)] _ _ ar rfl
    have hM := HI.out.d.s.below hB
    have c6 := hM.c6
    have ka := M.at_any bm s _ hM.ps.m
    have HM := S.hid hM
    have HB := S.hid hB
    have HA := S.hid ar
    have HTN := S.hid htn
    clear hL h1 aB c1 hB hM htn ar
    go_wp2_with (refine wpList_store_row rfl 49 _ _ rfl w1.heap.size _ rfl rfl 49 P.zR az (by exact P.sizeR) (by rfl) (by simp [Value.oneCell']) ?_)
    refine ka.mono ?_
    rintro e w2 ⟨rfl, ha⟩
    have hV2 := HM.out.goes (HM.out.ps.mem ha) HM.out.wf.d HM.out.wf.r
    have hV2 : VD _ w2 g bd br bm kv _ (cyc s u) := hV2
    have ar := (hV2.other HI.out.d.s HB.out.size w1.heap.size h1s (S.lt_of HA.out)).trans HA.out
    have kd := do_any op HX.out.1 HX.out.2.1 x HX.out.2.2 (cyc s u) (by have := HI.out.t; have := HI.out.ns; have := HI.out.sB; show u.m.tones.length ≤ 999000; omega) g bd br bm kv _ w2 hV2.s
    unfold P.rowN P.rowV at kd
    have hV3 : VD wr w2 g bd br bm kv _ (cyc s u) := VD.pre HI.out.d.s HB.out hV2
    have HV3 := S.hid (VD.trans H0.out HI.out.d hV3)
    have HV2 := S.hid hV2
    clear ka ha hV2 az r4 c6 hV3
    go_wp2_with (refine wpList_load_row rfl 49 _ rfl w1.heap.size rfl 49 _ (0, 0) _ ar Tryz.underlying49 rfl (by exact P.sizeR) ?_)
    refine kd.mono ?_
    rintro e w3 ⟨rfl, hd⟩
    have ar3 := (hd.t.block w1.heap.size (S.lt_of ar) (by
      have a1 := HI.out.d.s.lt; have a2 := HI.out.d.s.lt_d; have a3 := HI.out.d.s.lt_r; have a4 := HI.out.d.s.fb
      have a5 := HB.out.size; have a6 := h1s
      rintro (e | e | e | e)
      · omega
      · omega
      · omega
      · rcases e with e | ⟨e, _⟩
        · have := a4 _ e; omega
        · have := S.lt_of HA.out; omega)).trans ar
    have r0 := S.cell_of _ _ 0 [.int .i64 (op : Int), .string (P.nm op), .int .i64 (P.ri op), .int .i64 (P.ro op), .int .i64 (P.rc op), .bool (P.rb op)] _ _ ar3 rfl
    have r4 := S.cell_of _ _ 4 [.int .i64 (op : Int), .string (P.nm op), .int .i64 (P.ri op), .int .i64 (P.ro op), .int .i64 (P.rc op), .bool (P.rb op)] _ _ ar3 rfl
    have hV4 := VD.trans H0.out HI.out.d (VD.pre HI.out.d.s HB.out (VD.trans HM.out HV2.out hd))
    have HTN' := HTN.out (cyc s u)
    clear kd ar ar3 hd HA HTN HM HB HV2
    by_cases q5 : (doo op x (cyc s u)).1 = 0
    case neg =>
      have e : R = ⟨fail (doo op x (cyc s u)).1 (cyc s u), n, s⟩ := by rw [HW.out, if_neg q5]
      subst e
      have es : (doo op x (cyc s u)).2 = cyc s u := by unfold doo at q5 ⊢; simp only at q5 ⊢; rw [if_neg q5]
      rw [es] at hV4
      have f2 : ((doo op x (cyc s u)).1 != 0) = true := by simpa using q5
      have kf := fail_any g bd br bm kv _ (cyc s u) (doo op x (cyc s u)).1 w3 hV4.s
      have HV4 := S.hid hV4
      clear hV4 HW HTN' r0 r4 es
      go_wp2_with fail
      refine kf.mono ?_
      rintro e w4 ⟨rfl, hf⟩
      have HG := S.hid (VD.trans H0.out HV4.out hf)
      clear kf hf HV4
      go_wp2
      go_ret2
      exact ⟨rfl, HG.out⟩
    have hwk := HW.out
    rw [if_pos q5] at hwk
    clear HW
    have HW := S.hid hwk
    have n1 := HI.out.n0
    have n2 := HI.out.ns
    have w2' : wrap64 (n + 1) = n + 1 := by simp [wrap64]; omega
    have w3' : wrap64 (s + P.rc op) = s + P.rc op := by simp [wrap64]; omega
    have HV4 := S.hid hV4
    rw [q5]
    clear hwk hV4
    by_cases q6 : op = 10
    · have e : R = ⟨(doo op x (cyc s u)).2, n + 1, s + P.rc op⟩ := by rw [HW.out, if_pos q6]
      subst e
      have e5 : ((op : Int) == 10) = true := by subst q6; rfl
      have e6 : (op == 10) = true := by subst q6; rfl
      clear HTN' HW n1 n2 hrc q6
      go_wp2
      go_ret2
      exact ⟨rfl, HV4.out⟩
    · have e5 : ((op : Int) == 10) = false := beq_eq_false_iff_ne.2 (by omega)
      have e6 : (op == 10) = false := beq_eq_false_iff_ne.2 q6
      have HN : Hid (WI W w3 g bd br bm kv F B v k' (doo op x (cyc s u)).2 (n + 1) (s + P.rc op)) := S.hid ⟨by omega, by omega, by omega, by have := HI.out.kk; omega, by rw [← HR.out, HW.out, if_neg q6], HV4.out, by have h1 := HI.out.t; have h2 : (cyc s u).m.tones = u.m.tones := rfl; rw [h2] at HTN'; omega⟩
      have hm : (B - (s + P.rc op)).toNat < (B - s).toNat := by omega
      clear HTN' HW n1 n2 HI HV4 HR
      go_wp2
      go_roundw
      case rel =>
        exact ⟨k', _, n + 1, s + P.rc op, by rw [w2'], by rw [w3'], HN.out⟩
      case measure => simp only [intOf, w3']; exact hm
end Go.Proofs.YteldjmecomngeaaGreat.V
/-! State. -/
namespace Go.Proofs.YteldjmecomngeaaGreat.V
open Go.RowKit
open Go.Proofs
set_option linter.unusedVariables false
set_option linter.unusedSimpArgs false
set_option maxHeartbeats 2000000
set_option maxRecDepth 100000
/-- A store of a whole row, as one step of a region that draws. -/
theorem step_store_row {ops : Array Oper} {o : Oper} {a : Act} {w : World} {K : Act → World → Prop} {Q : Exit → Act → World → Prop} {E : Prop} (hgd : o.guard = none) (ty : TypeId) (x y : Operand) (ho : o.op = .store ty x y)
    (g : Nat) (cells : Array Value) (hx : a.eval x = .pointer (some ⟨g, 0, none⟩)) (hy : a.eval y = .agg cells)
    (t : TypeId) (old : Array Value) (hg : w.heap[g]? = some (.cells old t (0, 0))) (hi : (Tryz.prog.info? ty).map (·.size) = some cells.size)
    (hold : old.size = cells.size) (h1 : cells.all (·.oneCell') = true) (h : K (a.put o.dst undef) (w.setRow g cells)) :
    if Region.wanted o (yielded ops a.tmps) = true then Oper.wp Tryz.prog o a w K Q else E := by
  have hw : Region.wanted o (yielded ops a.tmps) = true := by simp [Region.wanted, hgd]
  rw [if_pos hw]
  exact wp_store_row ty x y ho g cells hx hy t old hg hi hold h1 h
def z5 : Array Value := #[.int .u16 0, .int .i64 0, .int .i64 0, .slice none 0 0, .slice none 0 0]
theorem size46 : (Tryz.prog.info? 46).map (·.size) = some 5 := by kernel_rfl
theorem MV.c5s {W : World} {g bd br bm : Nat} {kv : Value} {F : Nat → Prop} {v : VS} (h : MV W g bd br bm kv F v) : W.cell? ⟨g, 0, none⟩ = some (.int .u16 v.pc) ∧ W.cell? ⟨g, 1, none⟩ = some (.int .i64 v.st) ∧ W.cell? ⟨g, 2, none⟩ = some (.int .i64 v.fa) ∧ W.cell? ⟨g, 3, none⟩ = some (.pointer (some ⟨bd, 0, none⟩)) ∧ W.cell? ⟨g, 4, none⟩ = some (.pointer (some ⟨br, 0, none⟩)) := ⟨h.c0, h.c1, h.c2, h.c3, h.c4⟩
theorem own_lt {w : World} {B : Nat} {e : TypeId} {size : Nat} {v : Value} {n : Nat} {xs : List Value} (h : w.ownsRow B e size v n xs) (k : Nat) (hk : v.ownBlock = some k) : B ≤ k ∧ k < w.heap.size := by
  rcases h.2 with ⟨rfl, _⟩ | ⟨g, cap, cur, rfl, h2, h3, _⟩
  · simp [Value.ownBlock] at hk
  · simp [Value.ownBlock] at hk; subst hk; exact ⟨h2, S.lt_of h3⟩
theorem own_form {w : World} {B : Nat} {e : TypeId} {size : Nat} {v : Value} {n : Nat} {xs : List Value} (h : w.ownsRow B e size v n xs) : ∃ p cap, v = .slice p n cap := by
  rcases h.2 with ⟨h, e⟩ | ⟨g, cap, cur, h1, _⟩
  · exact ⟨none, 0, by rw [h, e]⟩
  · exact ⟨_, cap, h1⟩
theorem MV.row {W : World} {g bd br bm : Nat} {kv : Value} {F : Nat → Prop} {v : VS} (h : MV W g bd br bm kv F v) (N : Nat) (hN : g ≠ N) (c : Array Value) : (W.setRow N c).cell? ⟨g, 0, none⟩ = some (.int .u16 v.pc) ∧ (W.setRow N c).cell? ⟨g, 1, none⟩ = some (.int .i64 v.st) ∧ (W.setRow N c).cell? ⟨g, 2, none⟩ = some (.int .i64 v.fa) ∧ (W.setRow N c).cell? ⟨g, 3, none⟩ = some (.pointer (some ⟨bd, 0, none⟩)) ∧ (W.setRow N c).cell? ⟨g, 4, none⟩ = some (.pointer (some ⟨br, 0, none⟩)) := by
  have e : (W.setRow N c).heap[g]? = W.heap[g]? := setRow_other W N g c hN
  exact ⟨(World.cell?_of_block (a := ⟨g, 0, none⟩) e).trans h.c0, (World.cell?_of_block (a := ⟨g, 1, none⟩) e).trans h.c1, (World.cell?_of_block (a := ⟨g, 2, none⟩) e).trans h.c2, (World.cell?_of_block (a := ⟨g, 3, none⟩) e).trans h.c3, (World.cell?_of_block (a := ⟨g, 4, none⟩) e).trans h.c4⟩
/-- A state, as State tells it. -/
def StV (v : VS) (du ru : Value) : Value := .agg #[.int .u16 v.pc, .int .i64 v.st, .int .i64 v.fa, du, ru]
theorem state_any (g bd br bm : Nat) (kv : Value) (F : Nat → Prop) (v : VS) (w : World) (h : MV w g bd br bm kv F v) :
    Calls Tryz.prog 14 #[.pointer (some ⟨g, 0, none⟩)] w fun e w' => ∃ p1 c1 p2 c2, e = .returned (StV v (.slice p1 v.D.length c1) (.slice p2 v.R.length c2)) ∧ S.RowU w' w.heap.size (.slice p1 v.D.length c1) v.D ∧ S.RowK w' w.heap.size (.slice p2 v.R.length c2) v.R ∧ Below w.heap.size w w' := by
  have hz := heap_alloc_new w (.cells #[.int .u16 0, .int .i64 0, .int .i64 0, .slice none 0 0, .slice none 0 0] 46)
  have hb := P.bel_alloc w (.cells #[.int .u16 0, .int .i64 0, .int .i64 0, .slice none 0 0, .slice none 0 0] 46)
  have hM := h.below hb
  have hlt := h.lt
  generalize hW : w.alloc (.cells #[.int .u16 0, .int .i64 0, .int .i64 0, .slice none 0 0, .slice none 0 0] 46) = W at *
  have hb1 : Below w.heap.size w W.drew := ⟨hb.os, hb.tape, hb.output, hb.size, hb.block⟩
  have hM1 : MV W.drew g bd br bm kv F v := hM.below ⟨rfl, rfl, rfl, Nat.le_refl _, fun _ _ => rfl⟩
  have hz1 : W.drew.heap[w.heap.size]? = some (.cells z5 46 (0, 0)) := hz
  have s0 := hM1.c5s
  have k1 := S.dcells bd v.D W.drew hM1.ps.d
  have HB := S.hid hb1
  have HM := S.hid hM1
  have HZ := S.hid hz1
  have hs : w.heap.size ≤ W.drew.heap.size := hb1.size
  have HBs := S.hid (show w.heap.size < W.drew.heap.size ∧ True from ⟨S.lt_of hz1, trivial⟩)
  clear h hb hM hz hb1 hM1 hz1
  go_enter Tryz.func14, Tryz.ntmps14
  go_wp2_with fail
  refine wp_region_held_drew (S := (fun w' => w'.cell? ⟨g, 0, none⟩ = some (.int .u16 v.pc) ∧ w'.cell? ⟨g, 1, none⟩ = some (.int .i64 v.st) ∧ w'.cell? ⟨g, 2, none⟩ = some (.int .i64 v.fa) ∧ w'.cell? ⟨g, 3, none⟩ = some (.pointer (some ⟨bd, 0, none⟩)) ∧ w'.cell? ⟨g, 4, none⟩ = some (.pointer (some ⟨br, 0, none⟩)))) (by kernel_rfl) s0 (fun hHeld => ?_)
  generalize hWd : W.drew = Wd at *
  refine wpAnyH_take (i := 0) (v := ?_) rfl (by kernel_rfl) (by kernel_rfl) (by kernel_rfl) (fun c a w h => h) (Or.inl ⟨by rfl, ?_⟩) hHeld ?_
  rotate_left
  · (intro w hSw; (try dsimp only at hSw); go_simp; try with_reducible rfl)
  simp only [Act.put, List.setIfInBounds_toArray, List.set_cons_zero, List.set_cons_succ]
  refine wpAnyH_take (i := 1) (v := ?_) rfl (by kernel_rfl) (by kernel_rfl) (by kernel_rfl) (fun c a w h => h) (Or.inl ⟨by rfl, ?_⟩) hHeld ?_
  rotate_left
  · (intro w hSw; (try dsimp only at hSw); go_simp; try with_reducible rfl)
  simp only [Act.put, List.setIfInBounds_toArray, List.set_cons_zero, List.set_cons_succ]
  refine wpAnyH_take (i := 2) (v := ?_) rfl (by kernel_rfl) (by kernel_rfl) (by kernel_rfl) (fun c a w h => h) (Or.inl ⟨by rfl, ?_⟩) hHeld ?_
  rotate_left
  · (intro w hSw; (try dsimp only at hSw); go_simp; try with_reducible rfl)
  simp only [Act.put, List.setIfInBounds_toArray, List.set_cons_zero, List.set_cons_succ]
  refine wpAnyH_take (i := 3) (v := ?_) rfl (by kernel_rfl) (by kernel_rfl) (by kernel_rfl) (fun c a w h => h) (Or.inl ⟨by rfl, ?_⟩) hHeld ?_
  rotate_left
  · (intro w hSw; (try dsimp only at hSw); go_simp; try with_reducible rfl)
  simp only [Act.put, List.setIfInBounds_toArray, List.set_cons_zero, List.set_cons_succ]
  refine wpAnyH_take (i := 4) (v := ?_) rfl (by kernel_rfl) (by kernel_rfl) (by kernel_rfl) (fun c a w h => h) (Or.inl ⟨by rfl, ?_⟩) hHeld ?_
  rotate_left
  · (intro w hSw; (try dsimp only at hSw); go_simp; try with_reducible rfl)
  simp only [Act.put, List.setIfInBounds_toArray, List.set_cons_zero, List.set_cons_succ]
  refine wpAnyH_take (i := 5) (v := ?_) rfl (by kernel_rfl) (by kernel_rfl) (by kernel_rfl) (fun c a w h => h) (Or.inl ⟨by rfl, ?_⟩) hHeld ?_
  rotate_left
  · (intro w hSw; (try dsimp only at hSw); go_simp; try with_reducible rfl)
  simp only [Act.put, List.setIfInBounds_toArray, List.set_cons_zero, List.set_cons_succ]
  refine wpAnyH_take (i := 6) (v := ?_) rfl (by kernel_rfl) (by kernel_rfl) (by kernel_rfl) (fun c a w h => h) (Or.inl ⟨by rfl, ?_⟩) hHeld ?_
  rotate_left
  · (intro w hSw; (try dsimp only at hSw); go_simp; try with_reducible rfl)
  simp only [Act.put, List.setIfInBounds_toArray, List.set_cons_zero, List.set_cons_succ]
  refine wpAnyH_take (i := 7) (v := ?_) rfl (by kernel_rfl) (by kernel_rfl) (by kernel_rfl) (fun c a w h => h) (Or.inl ⟨by rfl, ?_⟩) hHeld ?_
  rotate_left
  · (intro w hSw; (try dsimp only at hSw); go_simp; try with_reducible rfl)
  simp only [Act.put, List.setIfInBounds_toArray, List.set_cons_zero, List.set_cons_succ]
  refine wpAnyH_take (i := 8) (v := ?_) rfl (by kernel_rfl) (by kernel_rfl) (by kernel_rfl) (fun c a w h => h) (Or.inl ⟨by rfl, ?_⟩) hHeld ?_
  rotate_left
  · (intro w hSw; (try dsimp only at hSw); go_simp; try with_reducible rfl)
  simp only [Act.put, List.setIfInBounds_toArray, List.set_cons_zero, List.set_cons_succ]
  refine wpAnyH_take (i := 9) (v := ?_) rfl (by kernel_rfl) (by kernel_rfl) (by kernel_rfl) (fun c a w h => h) (Or.inl ⟨by rfl, ?_⟩) hHeld ?_
  rotate_left
  · (intro w hSw; (try dsimp only at hSw); go_simp; try with_reducible rfl)
  simp only [Act.put, List.setIfInBounds_toArray, List.set_cons_zero, List.set_cons_succ]
  refine wpAnyH_take (i := 10) (v := ?_) rfl (by kernel_rfl) (by kernel_rfl) (by kernel_rfl) (fun c a w h => h) (Or.inl ⟨by rfl, ?_⟩) hHeld ?_
  rotate_left
  · (intro w hSw; (try dsimp only at hSw); go_simp; try with_reducible rfl)
  simp only [Act.put, List.setIfInBounds_toArray, List.set_cons_zero, List.set_cons_succ]
  refine wpAnyH_take (i := 11) (v := ?_) rfl (by kernel_rfl) (by kernel_rfl) (by kernel_rfl) (fun c a w h => h) (Or.inl ⟨by rfl, ?_⟩) hHeld ?_
  rotate_left
  · (intro w hSw; (try dsimp only at hSw); go_simp; try with_reducible rfl)
  simp only [Act.put, List.setIfInBounds_toArray, List.set_cons_zero, List.set_cons_succ]
  refine wpAnyH_take (i := 12) (v := ?_) rfl (by kernel_rfl) (by kernel_rfl) (by kernel_rfl) (fun c a w h => h) (Or.inl ⟨by rfl, ?_⟩) hHeld ?_
  rotate_left
  · (intro w hSw; (try dsimp only at hSw); go_simp; try with_reducible rfl)
  simp only [Act.put, List.setIfInBounds_toArray, List.set_cons_zero, List.set_cons_succ]
  refine wpAnyH_take (i := 13) (v := ?_) rfl (by kernel_rfl) (by kernel_rfl) (by kernel_rfl) (fun c a w h => h) (Or.inl ⟨by rfl, ?_⟩) hHeld ?_
  rotate_left
  · (intro w hSw; (try dsimp only at hSw); go_simp; try with_reducible rfl)
  simp only [Act.put, List.setIfInBounds_toArray, List.set_cons_zero, List.set_cons_succ]
  refine wpAnyH_take (i := 14) (v := ?_) rfl (by kernel_rfl) (by kernel_rfl) (by kernel_rfl) (fun c a w h => h) (Or.inl ⟨by rfl, ?_⟩) hHeld ?_
  rotate_left
  · (intro w hSw; (try dsimp only at hSw); go_simp; try with_reducible rfl)
  simp only [Act.put, List.setIfInBounds_toArray, List.set_cons_zero, List.set_cons_succ]
  refine wpAnyH_take (i := 15) (v := ?_) rfl (by kernel_rfl) (by kernel_rfl) (by kernel_rfl) (fun c a w h => h) (Or.inl ⟨by rfl, ?_⟩) hHeld ?_
  rotate_left
  · (intro w hSw; (try dsimp only at hSw); go_simp; try with_reducible rfl)
  simp only [Act.put, List.setIfInBounds_toArray, List.set_cons_zero, List.set_cons_succ]
  refine wpAnyH_take (i := 16) (v := ?_) rfl (by kernel_rfl) (by kernel_rfl) (by kernel_rfl) (fun c a w h => h) (Or.inl ⟨by rfl, ?_⟩) hHeld ?_
  rotate_left
  · (intro w hSw; (try dsimp only at hSw); go_simp; try with_reducible rfl)
  simp only [Act.put, List.setIfInBounds_toArray, List.set_cons_zero, List.set_cons_succ]
  refine wpAnyH_take (i := 17) (v := ?_) rfl (by kernel_rfl) (by kernel_rfl) (by kernel_rfl) (fun c a w h => h) (Or.inl ⟨by rfl, ?_⟩) hHeld ?_
  rotate_left
  · (intro w hSw; (try dsimp only at hSw); go_simp; try with_reducible rfl)
  simp only [Act.put, List.setIfInBounds_toArray, List.set_cons_zero, List.set_cons_succ]
  refine wpAnyH_take (i := 18) (v := ?_) rfl (by kernel_rfl) (by kernel_rfl) (by kernel_rfl) (fun c a w h => h) (Or.inl ⟨by rfl, ?_⟩) hHeld ?_
  rotate_left
  · (intro w hSw; (try dsimp only at hSw); go_simp; try with_reducible rfl)
  simp only [Act.put, List.setIfInBounds_toArray, List.set_cons_zero, List.set_cons_succ]
  refine wpAnyH_take (i := 19) (v := ?_) rfl (by kernel_rfl) (by kernel_rfl) (by kernel_rfl) (fun c a w h => h) (Or.inl ⟨by rfl, ?_⟩) hHeld ?_
  rotate_left
  · (intro w hSw; (try dsimp only at hSw); go_simp; try with_reducible rfl)
  simp only [Act.put, List.setIfInBounds_toArray, List.set_cons_zero, List.set_cons_succ]
  refine wpAnyH_take (i := 21) (v := ?_) rfl (by kernel_rfl) (by kernel_rfl) (by kernel_rfl) (fun c a w h => h) (Or.inl ⟨by rfl, ?_⟩) hHeld ?_
  rotate_left
  · (intro w hSw; (try dsimp only at hSw); go_simp; try with_reducible rfl)
  simp only [Act.put, List.setIfInBounds_toArray, List.set_cons_zero, List.set_cons_succ]
  refine wpAnyH_take (i := 22) (v := ?_) rfl (by kernel_rfl) (by kernel_rfl) (by kernel_rfl) (fun c a w h => h) (Or.inl ⟨by rfl, ?_⟩) hHeld ?_
  rotate_left
  · (intro w hSw; (try dsimp only at hSw); go_simp; try with_reducible rfl)
  simp only [Act.put, List.setIfInBounds_toArray, List.set_cons_zero, List.set_cons_succ]
  refine wpAnyH_take (i := 23) (v := ?_) rfl (by kernel_rfl) (by kernel_rfl) (by kernel_rfl) (fun c a w h => h) (Or.inl ⟨by rfl, ?_⟩) hHeld ?_
  rotate_left
  · (intro w hSw; (try dsimp only at hSw); go_simp; try with_reducible rfl)
  simp only [Act.put, List.setIfInBounds_toArray, List.set_cons_zero, List.set_cons_succ]
  refine wpAnyH_take (i := 24) (v := ?_) rfl (by kernel_rfl) (by kernel_rfl) (by kernel_rfl) (fun c a w h => h) (Or.inl ⟨by rfl, ?_⟩) hHeld ?_
  rotate_left
  · (intro w hSw; (try dsimp only at hSw); go_simp; try with_reducible rfl)
  simp only [Act.put, List.setIfInBounds_toArray, List.set_cons_zero, List.set_cons_succ]
  refine wpAnyH_take (i := 25) (v := ?_) rfl (by kernel_rfl) (by kernel_rfl) (by kernel_rfl) (fun c a w h => h) (Or.inl ⟨by rfl, ?_⟩) hHeld ?_
  rotate_left
  · (intro w hSw; (try dsimp only at hSw); go_simp; try with_reducible rfl)
  simp only [Act.put, List.setIfInBounds_toArray, List.set_cons_zero, List.set_cons_succ]
  refine wpAnyH_ready (rs := [20]) (by kernel_rfl) (by simp) ?_
  refine AllReadyH.cons rfl (fun K hK => ?_) AllReadyH.nil
  go_simp
  refine k1.mono ?_
  rintro e w1 ⟨u1, rfl, r1, b1⟩
  obtain ⟨p1, c1, rfl⟩ := own_form r1
  have hM1 := HM.out.below b1
  have s1 := hM1.c5s
  have k2 := S.rcells br v.R w1 hM1.ps.r
  have HB1 := S.hid (trB HB.out b1 hs)
  have HR1 := S.hid (show S.RowU w1 Wd.heap.size (.slice p1 v.D.length c1) v.D from r1)
  have HM1 := S.hid hM1
  have HZ1 := S.hid ((b1.block _ (S.lt_of HZ.out)).trans HZ.out)
  have hs1 : w.heap.size ≤ w1.heap.size := Nat.le_trans hs b1.size
  have hs1' := b1.size
  clear k1 r1 b1 hM1 s0
  refine hK.out _ _ s1 (fun hHeld => ?_)
  clear hK K
  try simp only [Act.put, List.setIfInBounds_toArray, List.set_cons_zero, List.set_cons_succ]
  refine wpAnyH_ready (rs := [26]) (by kernel_rfl) (by simp) ?_
  refine AllReadyH.cons rfl (fun K hK => ?_) AllReadyH.nil
  go_simp
  refine k2.mono ?_
  rintro e w2 ⟨u2, rfl, r2, b2⟩
  obtain ⟨p2, c2, rfl⟩ := own_form r2
  have hM2 := HM1.out.below b2
  have s2 := hM2.c5s
  have HB2 := S.hid (trB HB1.out b2 hs1)
  have HR2 := S.hid (show S.RowK w2 w1.heap.size (.slice p2 v.R.length c2) v.R from r2)
  have HR1' := S.hid (show S.RowU w2 Wd.heap.size (.slice p1 v.D.length c1) v.D from S.own_kept HR1.out fun k _ hk => b2.block k hk)
  have hz2 := (b2.block _ (S.lt_of HZ1.out)).trans HZ1.out
  clear k2 r2 b2 s1 HR1 HZ1
  have s3 : (fun w' => w'.cell? ⟨g, 0, none⟩ = some (.int .u16 v.pc) ∧ w'.cell? ⟨g, 1, none⟩ = some (.int .i64 v.st) ∧ w'.cell? ⟨g, 2, none⟩ = some (.int .i64 v.fa) ∧ w'.cell? ⟨g, 3, none⟩ = some (.pointer (some ⟨bd, 0, none⟩)) ∧ w'.cell? ⟨g, 4, none⟩ = some (.pointer (some ⟨br, 0, none⟩))) (w2.setRow w.heap.size #[.int .u16 v.pc, .int .i64 v.st, .int .i64 v.fa, .slice p1 v.D.length c1, .slice p2 v.R.length c2]) := (hM2.row w.heap.size (Nat.ne_of_lt hlt) _)
  have HM2 := S.hid hM2
  clear hM2
  refine hK.out _ _ s2 (fun hHeld => ?_)
  clear hK K
  try simp only [Act.put, List.setIfInBounds_toArray, List.set_cons_zero, List.set_cons_succ]
  refine wpAnyH_ready (rs := [27]) (by kernel_rfl) (by simp) ?_
  refine AllReadyH.cons rfl (fun K hK => ?_) AllReadyH.nil
  go_simp
  refine hK.out _ _ s2 (fun hHeld => ?_)
  clear hK K
  refine wpAnyH_ready (rs := [28]) (by kernel_rfl) (by simp) ?_
  refine AllReadyH.cons rfl (fun K hK => ?_) AllReadyH.nil
  refine step_store_row rfl 46 (.tmp 2) (.tmp 33) rfl w.heap.size #[.int .u16 v.pc, .int .i64 v.st, .int .i64 v.fa, .slice p1 v.D.length c1, .slice p2 v.R.length c2] (by simp [Act.eval]) (by simp [Act.eval]) 46 z5 hz2 (by exact size46) (by rfl) (by simp [Value.oneCell']) ?_
  refine hK.out _ _ s3 (fun hHeld => ?_)
  clear hK K
  refine wpAnyH_done (by kernel_rfl) ?_ _
  have hfin := setRow_heap w2 w.heap.size _ #[.int .u16 v.pc, .int .i64 v.st, .int .i64 v.fa, .slice p1 v.D.length c1, .slice p2 v.R.length c2] _ _ hz2
  clear hHeld s2 s3
  simp only [Act.put, List.setIfInBounds_toArray, List.set_cons_zero, List.set_cons_succ]
  go_wp2
  refine bodyPost_ret (results_cell_row rfl _ _ w.heap.size 46 _ (0, 0) _ rfl hfin Tryz.underlying46 rfl size46) rfl ⟨p1, c1, p2, c2, rfl, ?_, ?_, P.Below.setRow HB2.out w.heap.size (Nat.le_refl _) _⟩
  · exact S.own_mono (S.own_kept HR1'.out fun k e _ => setRow_other w2 w.heap.size k _ (by have := own_lt HR1'.out k e; have := HBs.out; omega)) hs
  · exact S.own_mono (S.own_kept HR2.out fun k e _ => setRow_other w2 w.heap.size k _ (by have := own_lt HR2.out k e; have := HBs.out; omega)) hs1
end Go.Proofs.YteldjmecomngeaaGreat.V
/-! Frame. -/
namespace Go.Proofs.YteldjmecomngeaaGreat.V
open Go.RowKit
open Go.Proofs
set_option linter.unusedVariables false
set_option linter.unusedSimpArgs false
set_option maxHeartbeats 2000000
set_option maxRecDepth 100000
theorem wk_tones (B : Int) : ∀ (k : Nat) (v : VS) (n s : Int), (wk k B v n s).v.m.tones.length ≤ v.m.tones.length + 3 * k
  | 0, v, n, s => by simp [wk]
  | k + 1, v, n, s => by
    have hd := doo_tones (look v).op (look v).x (cyc s v)
    have hc : (cyc s v).m.tones.length = v.m.tones.length := rfl
    have ih := wk_tones B k (doo (look v).op (look v).x (cyc s v)).2 (n + 1) (s + P.rc (look v).op)
    unfold wk
    split
    · split
      · split
        · simp only; omega
        · split
          · split
            · simp only; omega
            · omega
          · show (cyc s v).m.tones.length ≤ _; omega
      · show v.m.tones.length ≤ _; omega
    · simp only; omega
theorem wk_r (B : Int) : ∀ (k : Nat) (v : VS) (n s : Int), s ≤ B → n ≤ (wk k B v n s).steps ∧ (wk k B v n s).steps - n ≤ (wk k B v n s).spent - s ∧ (wk k B v n s).spent - s ≤ 4 * ((wk k B v n s).steps - n) ∧ (wk k B v n s).spent ≤ B
  | 0, v, n, s, h => by simp [wk]; omega
  | k + 1, v, n, s, h => by
    have hr := rc_r (look v).op
    unfold wk
    split
    · split
      · split
        · simp only; omega
        · rename_i q1 q2 q3
          have ih := wk_r B k (doo (look v).op (look v).x (cyc s v)).2 (n + 1) (s + P.rc (look v).op) (by omega)
          split
          · split
            · simp only; omega
            · omega
          · simp only; omega
      · simp only; omega
    · simp only; omega
def z7 : Array Value := #[.int .i64 0, .int .i64 0, .int .i64 0, .int .i64 0, .int .i64 0, .slice none 0 0, .slice none 0 0]
theorem size39 : (Tryz.prog.info? 39).map (·.size) = some 7 := by kernel_rfl
theorem MV.c3s {W : World} {g bd br bm : Nat} {kv : Value} {F : Nat → Prop} {u : VS} (h : MV W g bd br bm kv F u) : W.cell? ⟨g, 1, none⟩ = some (.int .i64 u.st) ∧ W.cell? ⟨g, 2, none⟩ = some (.int .i64 u.fa) ∧ W.cell? ⟨g, 6, none⟩ = some (.pointer (some ⟨bm, 0, none⟩)) := ⟨h.c1, h.c2, h.c6⟩
theorem MV.row3 {W : World} {g bd br bm : Nat} {kv : Value} {F : Nat → Prop} {u : VS} (h : MV W g bd br bm kv F u) (N : Nat) (hN : g ≠ N) (c : Array Value) : (W.setRow N c).cell? ⟨g, 1, none⟩ = some (.int .i64 u.st) ∧ (W.setRow N c).cell? ⟨g, 2, none⟩ = some (.int .i64 u.fa) ∧ (W.setRow N c).cell? ⟨g, 6, none⟩ = some (.pointer (some ⟨bm, 0, none⟩)) := by
  have e : (W.setRow N c).heap[g]? = W.heap[g]? := setRow_other W N g c hN
  exact ⟨(World.cell?_of_block (a := ⟨g, 1, none⟩) e).trans h.c1, (World.cell?_of_block (a := ⟨g, 2, none⟩) e).trans h.c2, (World.cell?_of_block (a := ⟨g, 6, none⟩) e).trans h.c6⟩
theorem MV.setRow {W : World} {g bd br bm : Nat} {kv : Value} {F : Nat → Prop} {v : VS} (h : MV W g bd br bm kv F v) (N : Nat) (c : Array Value) (h1 : N ≠ g) (h2 : N ≠ bd) (h3 : N ≠ br) (h4 : ¬ F N) (h5 : ∀ k, kv.ownBlock = some k → k ≠ N) : MV (W.setRow N c) g bd br bm kv F v := by
  have o : ∀ k, k ≠ N → (W.setRow N c).heap[k]? = W.heap[k]? := fun k hk => setRow_other W N k c hk
  exact ⟨(o _ (Ne.symm h1)).trans h.blk, ⟨h.ps.d.kept (o _ (Ne.symm h2)), h.ps.r.kept (o _ (Ne.symm h3)), h.ps.m.kept fun k _ f => o k (by rintro rfl; exact h4 f), h.ps.dr, h.ps.fd, h.ps.fr⟩,
    sl_kept h.code fun k e _ => o k (h5 k e), h.clen, fun k e => by rw [setRow_size]; exact h.ck k e, h.cb, fun k e => by rw [setRow_size]; exact h.fb k e, h.vd, h.vr, h.fv, h.wf⟩
/-- A result's block was made ahead of a call, and is written behind it. -/
theorem VD.around {w W w2 w4 : World} {g bd br bm : Nat} {kv : Value} {F : Nat → Prop} {v u : VS} (h0 : MV w g bd br bm kv F v) (hB : Below w.heap.size w W) (hs : w.heap.size < W.heap.size) (k : VD W w2 g bd br bm kv F u) (hD : Below w2.heap.size w2 w4) (c : Array Value) :
    VD w (w4.setRow w.heap.size c) g bd br bm kv F u := by
  have a1 := k.t.size
  have a2 := hD.size
  have a3 := h0.lt
  have a4 := h0.lt_d
  have a5 := h0.lt_r
  have nf : ¬ F w.heap.size := fun f => by have := h0.fb _ f; omega
  have hM : MV (w4.setRow w.heap.size c) g bd br bm kv (M.gr F W w2) u := (k.s.below hD).setRow w.heap.size c (by omega) (by omega) (by omega) (by rintro (f | ⟨f, _⟩); exact nf f; omega) (fun i e => by have := h0.ck i e; omega)
  have n1 : ∀ i, i < w.heap.size → ¬ F i → ¬ M.gr F w (w4.setRow w.heap.size c) i := by rintro i hi hf (e | ⟨e, _⟩); exact hf e; omega
  refine ⟨hM.mono (fun i hi => ?_) ?_ (n1 _ a3 h0.fv) (n1 _ a4 h0.ps.fd) (n1 _ a5 h0.ps.fr) (fun i e => n1 i (h0.ck i e) (h0.cb i e).2.2.2), ⟨?_, ?_, ?_, ?_, fun i hi n => ?_⟩⟩
  · rcases hi with hi | ⟨hi, hi'⟩
    · exact .inl hi
    · exact .inr ⟨by omega, by rw [setRow_size]; omega⟩
  · rintro i (e | ⟨_, e⟩)
    · have := h0.fb i e; rw [setRow_size]; omega
    · exact e
  · exact hD.os.trans (k.t.os.trans hB.os)
  · exact hD.tape.trans (k.t.tape.trans hB.tape)
  · exact hD.output.trans (k.t.output.trans hB.output)
  · rw [setRow_size]; omega
  · rw [setRow_other w4 w.heap.size i c (by omega), hD.block i (by omega), k.t.block i (by omega) n, hB.block i hi]
/-- A frame's out. -/
def OutV (r : WK) (B : Int) (a b : Value) : Value := .agg #[.int .i64 r.v.st, .int .i64 r.v.fa, .int .i64 r.steps, .int .i64 r.spent, .int .i64 (B - r.spent), a, b]
theorem frame_any (x : UInt8) (B : Int) (hB0 : 4 ≤ B) (hB1 : B ≤ 16384) (g bd br bm : Nat) (kv : Value) (F : Nat → Prop) (v : VS) (w : World) (h : MV w g bd br bm kv F v) :
    Calls Tryz.prog 13 #[.pointer (some ⟨g, 0, none⟩), .int .u8 (x.toNat : Int), .int .i64 B] w fun e w' => ∃ p1 c1 p2 c2, e = .returned (.tuple #[OutV (frame v (x.toNat : Int) B) B (.slice p1 (frame v (x.toNat : Int) B).v.m.scr.length c1) (.slice p2 (frame v (x.toNat : Int) B).v.m.tones.length c2), .int .i64 0]) ∧ M.Row w' w.heap.size (.slice p1 (frame v (x.toNat : Int) B).v.m.scr.length c1) (frame v (x.toNat : Int) B).v.m.scr ∧ M.TRow w' w.heap.size (.slice p2 (frame v (x.toNat : Int) B).v.m.tones.length c2) (frame v (x.toNat : Int) B).v.m.tones ∧ VD w w' g bd br bm kv F (frame v (x.toNat : Int) B).v := by
  have hz := heap_alloc_new w (.cells #[.int .i64 0, .int .i64 0, .int .i64 0, .int .i64 0, .int .i64 0, .slice none 0 0, .slice none 0 0] 39)
  have hb := P.bel_alloc w (.cells #[.int .i64 0, .int .i64 0, .int .i64 0, .int .i64 0, .int .i64 0, .slice none 0 0, .slice none 0 0] 39)
  have hM := h.below hb
  have hlt := h.lt
  generalize hW : w.alloc (.cells #[.int .i64 0, .int .i64 0, .int .i64 0, .int .i64 0, .int .i64 0, .slice none 0 0, .slice none 0 0] 39) = W at *
  have c6 := hM.c6
  have k0 := M.begin_any bm x W hM.ps.m
  have b1 : decide (B < 4) = false := decide_eq_false (by omega)
  have b2 : decide (16384 < B) = false := decide_eq_false (by omega)
  obtain ⟨r, hr⟩ : ∃ r, r = frame v (x.toNat : Int) B := ⟨_, rfl⟩
  rw [← hr]
  have HR := S.hid hr
  have H0 := S.hid h
  have HM := S.hid hM
  have HB := S.hid hb
  have HZ := S.hid hz
  have hs : w.heap.size ≤ W.heap.size := hb.size
  have hs' : w.heap.size < W.heap.size := S.lt_of hz
  clear h hb hM hz hr
  go_enter Tryz.func13, Tryz.ntmps13
  go_wp2_with fail
  refine k0.mono ?_
  rintro e w1 ⟨rfl, hd⟩
  have hV1 : VD W w1 g bd br bm kv F { v with m := M.bg v.m (x.toNat : Int) } := HM.out.goes (HM.out.ps.mem hd) HM.out.wf.d HM.out.wf.r
  have kw := work_any { v with m := M.bg v.m (x.toNat : Int) } B hB0 hB1 (by simp [M.bg]) g bd br bm kv _ w1 hV1.s
  have er : wk B.toNat B { v with m := M.bg v.m (x.toNat : Int) } 0 0 = r := by rw [HR.out]; rfl
  rw [er] at kw
  have HV1 := S.hid hV1
  have ht := wk_tones B B.toNat { v with m := M.bg v.m (x.toNat : Int) } 0 0
  have hr := wk_r B B.toNat { v with m := M.bg v.m (x.toNat : Int) } 0 0 (by omega)
  rw [er] at ht hr
  have ht : r.v.m.tones.length ≤ 1000000 := by simp only [M.bg, List.length_nil] at ht; omega
  obtain ⟨u, n, s⟩ := r
  simp only at kw ht hr
  have ws : IntKind.i64.wrap (B - s) = B - s := S.i64_id _ (by omega) (by omega)
  have ws' : wrap64 (B - s) = B - s := by simp [wrap64]; omega
  clear k0 hd hV1 c6 er hr
  go_wp2_with fail
  refine kw.mono ?_
  rintro e w2 ⟨rfl, hV2⟩
  have hV2 : VD W w2 g bd br bm kv F u := VD.trans HM.out HV1.out hV2
  have HV2 := S.hid hV2
  have hz2 := (hV2.other H0.out hs w.heap.size (Nat.le_refl _) (S.lt_of HZ.out)).trans HZ.out
  have HZ2 := S.hid hz2
  have s2 : w.heap.size < w2.drew.heap.size := Nat.lt_of_lt_of_le hs' hV2.t.size
  have hM2 : MV w2.drew g bd br bm kv (M.gr F W w2) u := hV2.s.below ⟨rfl, rfl, rfl, Nat.le_refl _, fun _ _ => rfl⟩
  have s0 := hM2.c3s
  have k1 := M.screen_any bm w2.drew hM2.ps.m
  have HM2 := S.hid hM2
  clear kw hV2 hz2 hM2 HV1
  go_wp2_with fail
  refine wp_region_held_drew (S := (fun w' => w'.cell? ⟨g, 1, none⟩ = some (.int .i64 u.st) ∧ w'.cell? ⟨g, 2, none⟩ = some (.int .i64 u.fa) ∧ w'.cell? ⟨g, 6, none⟩ = some (.pointer (some ⟨bm, 0, none⟩)))) (by kernel_rfl) s0 (fun hHeld => ?_)
  refine wpAnyH_take (i := 0) (v := ?_) rfl (by kernel_rfl) (by kernel_rfl) (by kernel_rfl) (fun c a w h => h) (Or.inl ⟨by rfl, ?_⟩) hHeld ?_
  rotate_left
  · (intro w hSw; (try dsimp only at hSw); go_simp; try with_reducible rfl)
  simp only [Act.put, List.setIfInBounds_toArray, List.set_cons_zero, List.set_cons_succ]
  refine wpAnyH_take (i := 1) (v := ?_) rfl (by kernel_rfl) (by kernel_rfl) (by kernel_rfl) (fun c a w h => h) (Or.inl ⟨by rfl, ?_⟩) hHeld ?_
  rotate_left
  · (intro w hSw; (try dsimp only at hSw); go_simp; try with_reducible rfl)
  simp only [Act.put, List.setIfInBounds_toArray, List.set_cons_zero, List.set_cons_succ]
  refine wpAnyH_take (i := 2) (v := ?_) rfl (by kernel_rfl) (by kernel_rfl) (by kernel_rfl) (fun c a w h => h) (Or.inl ⟨by rfl, ?_⟩) hHeld ?_
  rotate_left
  · (intro w hSw; (try dsimp only at hSw); go_simp; try with_reducible rfl)
  simp only [Act.put, List.setIfInBounds_toArray, List.set_cons_zero, List.set_cons_succ]
  refine wpAnyH_take (i := 3) (v := ?_) rfl (by kernel_rfl) (by kernel_rfl) (by kernel_rfl) (fun c a w h => h) (Or.inl ⟨by rfl, ?_⟩) hHeld ?_
  rotate_left
  · (intro w hSw; (try dsimp only at hSw); go_simp; try with_reducible rfl)
  simp only [Act.put, List.setIfInBounds_toArray, List.set_cons_zero, List.set_cons_succ]
  refine wpAnyH_take (i := 4) (v := ?_) rfl (by kernel_rfl) (by kernel_rfl) (by kernel_rfl) (fun c a w h => h) (Or.inl ⟨by rfl, ?_⟩) hHeld ?_
  rotate_left
  · (intro w hSw; (try dsimp only at hSw); go_simp; try with_reducible rfl)
  simp only [Act.put, List.setIfInBounds_toArray, List.set_cons_zero, List.set_cons_succ]
  refine wpAnyH_take (i := 5) (v := ?_) rfl (by kernel_rfl) (by kernel_rfl) (by kernel_rfl) (fun c a w h => h) (Or.inl ⟨by rfl, ?_⟩) hHeld ?_
  rotate_left
  · (intro w hSw; (try dsimp only at hSw); go_simp; try with_reducible rfl)
  simp only [Act.put, List.setIfInBounds_toArray, List.set_cons_zero, List.set_cons_succ]
  refine wpAnyH_take (i := 6) (v := ?_) rfl (by kernel_rfl) (by kernel_rfl) (by kernel_rfl) (fun c a w h => h) (Or.inl ⟨by rfl, ?_⟩) hHeld ?_
  rotate_left
  · (intro w hSw; (try dsimp only at hSw); go_simp; try with_reducible rfl)
  simp only [Act.put, List.setIfInBounds_toArray, List.set_cons_zero, List.set_cons_succ]
  refine wpAnyH_take (i := 7) (v := ?_) rfl (by kernel_rfl) (by kernel_rfl) (by kernel_rfl) (fun c a w h => h) (Or.inl ⟨by rfl, ?_⟩) hHeld ?_
  rotate_left
  · (intro w hSw; (try dsimp only at hSw); go_simp; try with_reducible rfl)
  simp only [Act.put, List.setIfInBounds_toArray, List.set_cons_zero, List.set_cons_succ]
  refine wpAnyH_take (i := 8) (v := ?_) rfl (by kernel_rfl) (by kernel_rfl) (by kernel_rfl) (fun c a w h => h) (Or.inl ⟨by rfl, ?_⟩) hHeld ?_
  rotate_left
  · (intro w hSw; (try dsimp only at hSw); go_simp; try with_reducible rfl)
  simp only [Act.put, List.setIfInBounds_toArray, List.set_cons_zero, List.set_cons_succ]
  refine wpAnyH_take (i := 9) (v := ?_) rfl (by kernel_rfl) (by kernel_rfl) (by kernel_rfl) (fun c a w h => h) (Or.inl ⟨by rfl, ?_⟩) hHeld ?_
  rotate_left
  · (intro w hSw; (try dsimp only at hSw); go_simp; try with_reducible rfl)
  simp only [Act.put, List.setIfInBounds_toArray, List.set_cons_zero, List.set_cons_succ]
  refine wpAnyH_take (i := 10) (v := ?_) rfl (by kernel_rfl) (by kernel_rfl) (by kernel_rfl) (fun c a w h => h) (Or.inl ⟨by rfl, ?_⟩) hHeld ?_
  rotate_left
  · (intro w hSw; (try dsimp only at hSw); go_simp; try with_reducible rfl)
  simp only [Act.put, List.setIfInBounds_toArray, List.set_cons_zero, List.set_cons_succ]
  refine wpAnyH_take (i := 11) (v := ?_) rfl (by kernel_rfl) (by kernel_rfl) (by kernel_rfl) (fun c a w h => h) (Or.inl ⟨by rfl, ?_⟩) hHeld ?_
  rotate_left
  · (intro w hSw; (try dsimp only at hSw); go_simp; try with_reducible rfl)
  simp only [Act.put, List.setIfInBounds_toArray, List.set_cons_zero, List.set_cons_succ]
  refine wpAnyH_take (i := 12) (v := ?_) rfl (by kernel_rfl) (by kernel_rfl) (by kernel_rfl) (fun c a w h => h) (Or.inl ⟨by rfl, ?_⟩) hHeld ?_
  rotate_left
  · (intro w hSw; (try dsimp only at hSw); go_simp; try with_reducible rfl)
  simp only [Act.put, List.setIfInBounds_toArray, List.set_cons_zero, List.set_cons_succ]
  refine wpAnyH_take (i := 13) (v := ?_) rfl (by kernel_rfl) (by kernel_rfl) (by kernel_rfl) (fun c a w h => h) (Or.inl ⟨by rfl, ?_⟩) hHeld ?_
  rotate_left
  · (intro w hSw; (try dsimp only at hSw); go_simp; try with_reducible rfl)
  simp only [Act.put, List.setIfInBounds_toArray, List.set_cons_zero, List.set_cons_succ]
  refine wpAnyH_take (i := 14) (v := ?_) rfl (by kernel_rfl) (by kernel_rfl) (by kernel_rfl) (fun c a w h => h) (Or.inl ⟨by rfl, ?_⟩) hHeld ?_
  rotate_left
  · (intro w hSw; (try dsimp only at hSw); go_simp; try with_reducible rfl)
  simp only [Act.put, List.setIfInBounds_toArray, List.set_cons_zero, List.set_cons_succ]
  refine wpAnyH_take (i := 15) (v := ?_) rfl (by kernel_rfl) (by kernel_rfl) (by kernel_rfl) (fun c a w h => h) (Or.inl ⟨by rfl, ?_⟩) hHeld ?_
  rotate_left
  · (intro w hSw; (try dsimp only at hSw); go_simp; try with_reducible rfl)
  simp only [Act.put, List.setIfInBounds_toArray, List.set_cons_zero, List.set_cons_succ]
  refine wpAnyH_take (i := 16) (v := ?_) rfl (by kernel_rfl) (by kernel_rfl) (by kernel_rfl) (fun c a w h => h) (Or.inl ⟨by rfl, ?_⟩) hHeld ?_
  rotate_left
  · (intro w hSw; (try dsimp only at hSw); go_simp; try with_reducible rfl)
  simp only [Act.put, List.setIfInBounds_toArray, List.set_cons_zero, List.set_cons_succ]
  refine wpAnyH_take (i := 17) (v := ?_) rfl (by kernel_rfl) (by kernel_rfl) (by kernel_rfl) (fun c a w h => h) (Or.inl ⟨by rfl, ?_⟩) hHeld ?_
  rotate_left
  · (intro w hSw; (try dsimp only at hSw); go_simp; try with_reducible rfl)
  simp only [Act.put, List.setIfInBounds_toArray, List.set_cons_zero, List.set_cons_succ]
  refine wpAnyH_take (i := 18) (v := ?_) rfl (by kernel_rfl) (by kernel_rfl) (by kernel_rfl) (fun c a w h => h) (Or.inl ⟨by rfl, ?_⟩) hHeld ?_
  rotate_left
  · (intro w hSw; (try dsimp only at hSw); go_simp; try with_reducible rfl)
  simp only [Act.put, List.setIfInBounds_toArray, List.set_cons_zero, List.set_cons_succ]
  refine wpAnyH_take (i := 20) (v := ?_) rfl (by kernel_rfl) (by kernel_rfl) (by kernel_rfl) (fun c a w h => h) (Or.inl ⟨by rfl, ?_⟩) hHeld ?_
  rotate_left
  · (intro w hSw; (try dsimp only at hSw); go_simp; try with_reducible rfl)
  simp only [Act.put, List.setIfInBounds_toArray, List.set_cons_zero, List.set_cons_succ]
  refine wpAnyH_take (i := 21) (v := ?_) rfl (by kernel_rfl) (by kernel_rfl) (by kernel_rfl) (fun c a w h => h) (Or.inl ⟨by rfl, ?_⟩) hHeld ?_
  rotate_left
  · (intro w hSw; (try dsimp only at hSw); go_simp; try with_reducible rfl)
  simp only [Act.put, List.setIfInBounds_toArray, List.set_cons_zero, List.set_cons_succ]
  refine wpAnyH_take (i := 22) (v := ?_) rfl (by kernel_rfl) (by kernel_rfl) (by kernel_rfl) (fun c a w h => h) (Or.inl ⟨by rfl, ?_⟩) hHeld ?_
  rotate_left
  · (intro w hSw; (try dsimp only at hSw); go_simp; try with_reducible rfl)
  simp only [Act.put, List.setIfInBounds_toArray, List.set_cons_zero, List.set_cons_succ]
  refine wpAnyH_take (i := 23) (v := ?_) rfl (by kernel_rfl) (by kernel_rfl) (by kernel_rfl) (fun c a w h => h) (Or.inl ⟨by rfl, ?_⟩) hHeld ?_
  rotate_left
  · (intro w hSw; (try dsimp only at hSw); go_simp; try with_reducible rfl)
  simp only [Act.put, List.setIfInBounds_toArray, List.set_cons_zero, List.set_cons_succ]
  refine wpAnyH_ready (rs := [19]) (by kernel_rfl) (by simp) ?_
  refine AllReadyH.cons rfl (fun K hK => ?_) AllReadyH.nil
  go_simp
  refine k1.mono ?_
  rintro e w3 ⟨u1, rfl, r1, d1⟩
  obtain ⟨p1, c1, rfl⟩ := own_form r1
  have hM3 := HM2.out.below d1
  have s3 := hM3.c3s
  have k2 := M.tones_any bm w3 hM3.ps.m ht
  have HD3 := S.hid (show Below w2.drew.heap.size w2.drew w3 from d1)
  have HR1 := S.hid (show M.Row w3 w2.drew.heap.size (.slice p1 u.m.scr.length c1) u.m.scr from r1)
  have HM3 := S.hid hM3
  clear k1 r1 d1 hM3 s0
  refine hK.out _ _ s3 (fun hHeld => ?_)
  clear hK K
  try simp only [Act.put, List.setIfInBounds_toArray, List.set_cons_zero, List.set_cons_succ]
  refine wpAnyH_ready (rs := [24]) (by kernel_rfl) (by simp) ?_
  refine AllReadyH.cons rfl (fun K hK => ?_) AllReadyH.nil
  go_simp
  refine k2.mono ?_
  rintro e w4 ⟨u2, rfl, r2, d2⟩
  obtain ⟨p2, c2, rfl⟩ := own_form r2
  have hM4 := HM3.out.below d2
  have s4 := hM4.c3s
  have HD4 := S.hid (show Below w2.drew.heap.size w2.drew w4 from trB HD3.out d2 HD3.out.size)
  have HR2 := S.hid (show M.TRow w4 w3.heap.size (.slice p2 u.m.tones.length c2) u.m.tones from r2)
  have HR1' := S.hid (show M.Row w4 w2.drew.heap.size (.slice p1 u.m.scr.length c1) u.m.scr from HR1.out.below d2)
  have hz4 : w4.heap[w.heap.size]? = some (.cells z7 39 (0, 0)) := (HD4.out.block _ s2).trans HZ2.out
  have s5 : (fun w' => w'.cell? ⟨g, 1, none⟩ = some (.int .i64 u.st) ∧ w'.cell? ⟨g, 2, none⟩ = some (.int .i64 u.fa) ∧ w'.cell? ⟨g, 6, none⟩ = some (.pointer (some ⟨bm, 0, none⟩))) (w4.setRow w.heap.size #[.int .i64 u.st, .int .i64 u.fa, .int .i64 n, .int .i64 s, .int .i64 (B - s), .slice p1 u.m.scr.length c1, .slice p2 u.m.tones.length c2]) := hM4.row3 w.heap.size (Nat.ne_of_lt hlt) _
  have HM4 := S.hid hM4
  clear k2 r2 d2 s3 HR1 HM3 hM4
  refine hK.out _ _ s4 (fun hHeld => ?_)
  clear hK K
  try simp only [Act.put, List.setIfInBounds_toArray, List.set_cons_zero, List.set_cons_succ]
  refine wpAnyH_ready (rs := [25]) (by kernel_rfl) (by simp) ?_
  refine AllReadyH.cons rfl (fun K hK => ?_) AllReadyH.nil
  go_simp
  refine hK.out _ _ s4 (fun hHeld => ?_)
  clear hK K
  refine wpAnyH_ready (rs := [26]) (by kernel_rfl) (by simp) ?_
  refine AllReadyH.cons rfl (fun K hK => ?_) AllReadyH.nil
  refine step_store_row rfl 39 (.tmp 6) (.tmp 57) rfl w.heap.size #[.int .i64 u.st, .int .i64 u.fa, .int .i64 n, .int .i64 s, .int .i64 (B - s), .slice p1 u.m.scr.length c1, .slice p2 u.m.tones.length c2] (by simp [Act.eval]) (by simp [Act.eval]) 39 z7 hz4 (by exact size39) (by rfl) (by simp [Value.oneCell']) ?_
  refine hK.out _ _ s5 (fun hHeld => ?_)
  clear hK K
  refine wpAnyH_ready (rs := [27]) (by kernel_rfl) (by simp) ?_
  refine AllReadyH.cons rfl (fun K hK => ?_) AllReadyH.nil
  go_simp
  refine hK.out _ _ s5 (fun hHeld => ?_)
  clear hK K
  refine wpAnyH_done (by kernel_rfl) ?_ _
  have hfin := setRow_heap w4 w.heap.size _ #[.int .i64 u.st, .int .i64 u.fa, .int .i64 n, .int .i64 s, .int .i64 (B - s), .slice p1 u.m.scr.length c1, .slice p2 u.m.tones.length c2] _ _ hz4
  clear hHeld s4 s5
  try simp only [Act.put, List.setIfInBounds_toArray, List.set_cons_zero, List.set_cons_succ]
  go_wp2
  have hsz : w3.heap.size ≥ w2.drew.heap.size := HD3.out.size
  have hVF : VD w (w4.setRow w.heap.size #[.int .i64 u.st, .int .i64 u.fa, .int .i64 n, .int .i64 s, .int .i64 (B - s), .slice p1 u.m.scr.length c1, .slice p2 u.m.tones.length c2]) g bd br bm kv F u := VD.around H0.out HB.out hs' HV2.out ⟨HD4.out.os, HD4.out.tape, HD4.out.output, HD4.out.size, HD4.out.block⟩ _
  refine bodyPost_ret (v := .tuple #[OutV ⟨u, n, s⟩ B (.slice p1 u.m.scr.length c1) (.slice p2 u.m.tones.length c2), .int .i64 0]) ?_ rfl ⟨p1, c1, p2, c2, rfl, ?_, ?_, hVF⟩
  · rw [results_cell_tmp rfl]
    simp [asAddr, run_loadVar_row _ w.heap.size _ 39 _ _ _ hfin Tryz.underlying39 rfl size39, OutV]
  · exact S.own_mono (S.own_kept HR1'.out fun k e _ => setRow_other w4 w.heap.size k _ (by have := own_lt HR1'.out k e; omega)) (Nat.le_of_lt s2)
  · exact S.own_mono (S.own_kept HR2.out fun k e _ => setRow_other w4 w.heap.size k _ (by have := own_lt HR2.out k e; omega)) (Nat.le_trans (Nat.le_of_lt s2) hsz)
end Go.Proofs.YteldjmecomngeaaGreat.V
/-! 7.1: Check. -/
namespace Go.Proofs.YteldjmecomngeaaGreat.T
open Go.RowKit
open Go.Proofs
open Go.Proofs.YteldjmecomngeaaGreat.M
set_option linter.unusedVariables false
set_option linter.unusedSimpArgs false
set_option maxHeartbeats 1000000
set_option maxRecDepth 100000
theorem codeMay_any (p : Option Addr) (n c : Nat) (l : List UInt8) (hn : l.length = n) (hl : n ≤ room) (w : World) :
    Calls Tryz.prog 58 #[.slice p n c] w fun e w' => e = .returned (.bool (codeB l)) ∧ w' = w := by
  unfold room at hl
  have ht : (n : Int).tmod 2 = ((n % 2 : Nat) : Int) := (Int.ofNat_tmod n 2).symm
  by_cases h1 : n % 2 = 0
  · by_cases h2 : n ≤ 16384
    · have e : codeB l = true := by simp [codeB]; omega
      have i1 : ((n : Int).tmod 2 == 0) = true := by rw [ht, h1]; rfl
      have i2 : (n : Int) ≤ 16384 := by omega
      rw [e]
      clear ht
      go_enter Tryz.func58, Tryz.ntmps58
      go_wp2
      go_ret
      exact ⟨rfl, rfl⟩
    · have e : codeB l = false := by simp [codeB]; omega
      have i1 : ((n : Int).tmod 2 == 0) = true := by rw [ht, h1]; rfl
      have i2 : decide ((n : Int) ≤ 16384) = false := by simp; omega
      rw [e]
      clear ht
      go_enter Tryz.func58, Tryz.ntmps58
      go_wp2
      go_ret
      exact ⟨rfl, rfl⟩
  · have e : codeB l = false := by simp [codeB]; omega
    have i1 : ((n : Int).tmod 2 == 0) = false := by rw [ht]; simp; omega
    rw [e]
    clear ht
    go_enter Tryz.func58, Tryz.ntmps58
    go_wp2
    go_ret
    exact ⟨rfl, rfl⟩
theorem heightMay_any (x : Int) (w : World) :
    Calls Tryz.prog 94 #[.int .i64 x] w fun e w' => e = .returned (.bool (hgt x)) ∧ w' = w := by
  by_cases h1 : 0 ≤ x
  · by_cases h2 : x ≤ 256
    · have e : hgt x = true := by simp [hgt]; omega
      rw [e]
      go_enter Tryz.func94, Tryz.ntmps94
      go_wp2
      go_ret
      exact ⟨rfl, rfl⟩
    · have e : hgt x = false := by simp [hgt]; omega
      have i2 : decide (x ≤ 256) = false := by simp; omega
      rw [e]
      go_enter Tryz.func94, Tryz.ntmps94
      go_wp2
      go_ret
      exact ⟨rfl, rfl⟩
  · have e : hgt x = false := by simp [hgt]; omega
    have i1 : decide (0 ≤ x) = false := by simp; omega
    rw [e]
    go_enter Tryz.func94, Tryz.ntmps94
    go_wp2
    go_ret
    exact ⟨rfl, rfl⟩
theorem dataMay_any (p : Option Addr) (n c : Nat) (l : List UInt8) (hn : l.length = n) (w : World) :
    Calls Tryz.prog 95 #[.slice p n c] w fun e w' => e = .returned (.bool (datOk l)) ∧ w' = w := by
  by_cases h2 : n ≤ 16384
  · have e : datOk l = true := by simp [datOk]; omega
    have i2 : (n : Int) ≤ 16384 := by omega
    rw [e]
    go_enter Tryz.func95, Tryz.ntmps95
    go_wp2
    go_ret
    exact ⟨rfl, rfl⟩
  · have e : datOk l = false := by simp [datOk]; omega
    have i2 : decide ((n : Int) ≤ 16384) = false := by simp; omega
    rw [e]
    go_enter Tryz.func95, Tryz.ntmps95
    go_wp2
    go_ret
    exact ⟨rfl, rfl⟩
theorem banksMay_any (p : Option Addr) (c : Nat) (bs : List Bk) (hl : bs.length ≤ room) (w : World) (h : BnS w p bs) :
    Calls Tryz.prog 60 #[.slice p bs.length c] w fun e w' => e = .returned (.bool (bankG (-1) bs)) ∧ Below w.heap.size w w' := by
  unfold room at hl
  go_enter Tryz.func60, Tryz.ntmps60
  go_wp2
  go_loopw [3, 8] (fun a i wr => ∃ (k : Nat) (q : Int), k ≤ bs.length ∧ a = .int .i64 q ∧ i = .int .i64 (k : Int) ∧ bankG (-1) bs = bankG q (bs.drop k) ∧ Below w.heap.size w wr) (fun _ i _ => bs.length - (intOf i).toNat)
  case atStart => exact ⟨0, -1, by omega, rfl, rfl, rfl, Below.refl _ _⟩
  case round =>
    obtain ⟨k, q, hk, rfl, rfl, hG0, hB⟩ := hrel
    have hG := hid hG0
    clear hG0
    by_cases hlt : k < bs.length
    · have i1 : (k : Int) < bs.length := by omega
      obtain ⟨b, o, dv, rfl, e1, e2, e3, e4⟩ := h.below hB k bs[k] (List.getElem?_eq_getElem hlt)
      have hd : bs.drop k = bs[k] :: bs.drop (k + 1) := by rw [List.drop_eq_getElem_cons hlt]
      have hG := hG.out
      rw [hd] at hG
      generalize bs[k] = t at *
      obtain ⟨n, l⟩ := t
      simp only [bankG] at hG e1 e2 e3 e4
      have hL : l.length ≤ room := e4
      obtain ⟨dp, dc, rfl, _⟩ := e3.ex
      unfold room at hL
      have hdm := fun W => dataMay_any dp l.length dc l rfl W
      have HB : Hid _ := hB.alloc hB.size (Obj.cells #[.int .i64 n, .slice dp l.length dc] 81)
      have HG := hid hG
      clear hG hd e3 hB e4 h
      by_cases c1 : n ≤ q
      · have d1 : decide (n ≤ q) = true := by simpa using c1
        have hf : bankG (-1) bs = false := by rw [HG.out]; simp; intro h; omega
        go_wp2
        go_ret
        exact ⟨by first | rfl | (rw [hf]; rfl), HB.out⟩
      have d1 : decide (n ≤ q) = false := by simpa using c1
      by_cases c2 : 16 ≤ n
      · have d2 : decide (16 ≤ n) = true := by simpa using c2
        have hf : bankG (-1) bs = false := by rw [HG.out]; simp; intro h; omega
        go_wp2
        go_ret
        exact ⟨by first | rfl | (rw [hf]; rfl), HB.out⟩
      have d2 : decide (16 ≤ n) = false := by simpa using c2
      by_cases c3 : datOk l = true
      · have HN : Hid (bankG (-1) bs = bankG n (bs.drop (k + 1))) := by
          have : (decide (q < n ∧ n < 16) && datOk l) = true := by rw [c3]; simp; omega
          have e := HG.out; rw [this] at e; exact hid (by simpa using e)
        rw [c3] at hdm
        clear HG c3
        go_wp2_with (first | (go_at_call 95; refine (hdm _).mono ?_; rintro e w1 ⟨rfl, rfl⟩))
        go_roundw
        case rel =>
          first
            | exact ⟨k + 1, n, by omega, rfl, by go_num, HN.out, HB.out⟩
            | ((repeat apply Exists.intro); refine ⟨⟨k + 1, n, by omega, rfl, ?_, HN.out, HB.out⟩, rfl⟩; go_num)
        case measure => simp [intOf]; omega
      · have c3' : datOk l = false := by simpa using c3
        have hf : bankG (-1) bs = false := by rw [HG.out, c3']; simp
        rw [c3'] at hdm
        clear HG c3 c3'
        go_wp2_with (first | (go_at_call 95; refine (hdm _).mono ?_; rintro e w1 ⟨rfl, rfl⟩))
        go_ret
        exact ⟨by first | rfl | (rw [hf]; rfl), HB.out⟩
    · obtain rfl : k = bs.length := by omega
      have hf : bankG (-1) bs = true := by rw [hG.out, List.drop_length]; rfl
      clear hG
      go_wp2
      go_ret
      exact ⟨by first | rfl | (rw [hf]; rfl), hB⟩
end Go.Proofs.YteldjmecomngeaaGreat.T
/-! 7.1: effectsMayBe, Check. -/
namespace Go.Proofs.YteldjmecomngeaaGreat.T
open Go.RowKit
open Go.Proofs
open Go.Proofs.YteldjmecomngeaaGreat.M
set_option linter.unusedVariables false
set_option linter.unusedSimpArgs false
set_option maxHeartbeats 2000000
set_option maxRecDepth 100000
theorem dn {B : Nat} {W W' : World} (h : Below B W W') (q : Nat) : Below B W (W'.drewN q) := ⟨h.os, h.tape, h.output, h.size, h.block⟩
def pv (es : List Ef) : Nat → Int
  | 0 => -1
  | k + 1 => (es.getD k (0, 0, 0)).1
theorem eff_false {p : Int} {x : Ef} {l : List Ef} (h : ¬ p < (x.1 : Int) ∨ hgt x.2.1 = false ∨ hgt x.2.2 = false) : effG p (x :: l) = false := by
  simp only [effG]
  rcases h with h | h | h
  · simp [h]
  · simp [h]
  · simp [h]
theorem eff_true {p : Int} {x : Ef} {l : List Ef} (h1 : p < (x.1 : Int)) (h2 : hgt x.2.1 = true) (h3 : hgt x.2.2 = true) : effG p (x :: l) = effG x.1 l := by
  simp [effG, h1, h2, h3]
theorem effectsMay_any (p : Option Addr) (c : Nat) (es : List Ef) (hl : es.length ≤ room) (w : World) (h : EfS w p es) :
    Calls Tryz.prog 59 #[.slice p es.length c] w fun e w' => e = .returned (.bool (effsB es)) ∧ Below w.heap.size w w' := by
  unfold room at hl
  by_cases h0 : es.length ≤ 8192
  case neg =>
    have hf : effsB es = false := by simp [effsB]; omega
    have i1 : (8192 : Int) < es.length := by omega
    rw [hf]
    go_enter Tryz.func59, Tryz.ntmps59
    go_wp2
    go_ret
    exact ⟨rfl, Below.refl _ _⟩
  have he : effsB es = effG (-1) es := by simp [effsB, h0]
  have i0 : decide ((8192 : Int) < es.length) = false := by simp; omega
  rw [he]
  clear he
  go_enter Tryz.func59, Tryz.ntmps59
  go_wp2
  clear i0
  go_loopw [10] (fun i wr => ∃ (k : Nat), k ≤ es.length ∧ i = .int .i64 (k : Int) ∧ effG (-1) es = effG (pv es k) (es.drop k) ∧ Below w.heap.size w wr) (fun i _ => es.length - (intOf i).toNat)
  case atStart => exact ⟨0, by omega, rfl, rfl, Below.refl _ _⟩
  case round =>
    obtain ⟨k, hk, rfl, hG0, hB⟩ := hrel
    have hG := hid hG0
    clear hG0
    by_cases hlt : k < es.length
    case neg =>
      obtain rfl : k = es.length := by omega
      have hf : effG (-1) es = true := by rw [hG.out, List.drop_length]; rfl
      clear hG
      go_wp2
      go_ret
      exact ⟨by first | rfl | (rw [hf]; rfl), hB⟩
    have i1 : (k : Int) < es.length := by omega
    obtain ⟨b, ob, rfl, e1, e2, e3⟩ := h.below hB k es[k] (List.getElem?_eq_getElem hlt)
    have hd : es.drop k = es[k] :: es.drop (k + 1) := by rw [List.drop_eq_getElem_cons hlt]
    have hG := hG.out
    rw [hd] at hG
    have hP : pv es (k + 1) = (es[k]).1 := by simp [pv, List.getD, List.getElem?_eq_getElem hlt]
    have HF := hid (fun (x : ¬ pv es k < ((es[k]).1 : Int) ∨ hgt (es[k]).2.1 = false ∨ hgt (es[k]).2.2 = false) => hG.trans (eff_false x))
    have HT : Hid (∀ (x1 : pv es k < ((es[k]).1 : Int)) (x2 : hgt (es[k]).2.1 = true) (x3 : hgt (es[k]).2.2 = true), effG (-1) es = effG (pv es (k + 1)) (es.drop (k + 1))) := hid (fun x1 x2 x3 => by rw [hP]; exact hG.trans (eff_true x1 x2 x3))
    clear hG hd hP
    have HB := hid (hB.alloc hB.size (Obj.cells #[.int .u16 ((es[k]).1 : Int), .int .i64 (es[k]).2.1, .int .i64 (es[k]).2.2] 190))
    have hprev : ∀ j, k = j + 1 → ∃ a0 : Nat, pv es k = (a0 : Int) ∧ wr.cell? ⟨b, ob + j * 3, none⟩ = some (.int .u16 (a0 : Int)) := by
      intro j hj
      have hj2 : j < es.length := by omega
      obtain ⟨b', ob', q1, q2, _, _⟩ := h.below hB j es[j] (List.getElem?_eq_getElem hj2)
      have q1' : b = b' ∧ ob = ob' := by simpa using q1
      obtain ⟨rfl, rfl⟩ := q1'
      exact ⟨(es[j]).1, by subst hj; simp [pv, List.getD, List.getElem?_eq_getElem hj2], q2⟩
    clear h hB
    generalize es[k] = t at *
    obtain ⟨a, i, o⟩ := t
    simp only at *
    cases k with
    | zero =>
      clear hprev
      simp only [Nat.zero_mul, Nat.add_zero, Nat.zero_add] at e1 e2 e3
      have hq : pv es 0 < (a : Int) := by simp only [pv]; omega
      by_cases c2 : hgt i = true
      case neg =>
        have c2 : hgt i = false := by simpa using c2
        have hf : effG (-1) es = false := HF.out (.inr (.inl c2))
        clear HF HT
        go_wp2_with fail
        go_quiet (first | (go_at_call 94; exact Calls.quiet_of_same (heightMay_any _ _)))
        go_wp2
        go_ret
        exact ⟨by first | rfl | (rw [hf]; rfl), dn HB.out _⟩
      by_cases c3 : hgt o = true
      case neg =>
        have c3 : hgt o = false := by simpa using c3
        have hf : effG (-1) es = false := HF.out (.inr (.inr c3))
        clear HF HT
        go_wp2_with fail
        go_quiet (first | (go_at_call 94; exact Calls.quiet_of_same (heightMay_any _ _)))
        go_wp2
        go_ret
        exact ⟨by first | rfl | (rw [hf]; rfl), dn HB.out _⟩
      have HN := hid (HT.out hq c2 c3)
      clear HF HT hq
      go_wp2_with fail
      go_quiet (first | (go_at_call 94; exact Calls.quiet_of_same (heightMay_any _ _)))
      go_wp2
      go_roundw
      case rel =>
        first
          | exact ⟨0 + 1, by omega, by go_num, HN.out, dn HB.out _⟩
          | ((repeat apply Exists.intro); refine ⟨⟨0 + 1, by omega, ?_, HN.out, dn HB.out _⟩, rfl⟩; go_num)
      case measure => simp [intOf]; omega
    | succ j =>
      obtain ⟨a0, hp, e0⟩ := hprev j rfl
      clear hprev
      rw [hp] at HF HT
      clear hp
      have x1 : IntKind.i64.wrap (j : Int) = (j : Int) := by simp [IntKind.wrap, IntKind.bits, IntKind.signed]; omega
      have x2 : (j : Int) < es.length := by omega
      have e0' : (wr.alloc (Obj.cells #[.int .u16 (a : Int), .int .i64 i, .int .i64 o] 190)).cell? ⟨b, ob + j * 3, none⟩ = some (.int .u16 (a0 : Int)) := by rw [World.cell?_alloc_some _ _ _ (by rw [e0]; rfl)]; exact e0
      have i3 : (0 : Int) < ((j + 1 : Nat) : Int) := by omega
      by_cases hq : (a0 : Int) < (a : Int)
      case neg =>
        have d0 : decide (a ≤ a0) = true := by simp; omega
        have hf : effG (-1) es = false := HF.out (.inl hq)
        clear HF HT
        go_wp2_with fail
        go_quiet (first | (go_at_call 94; exact Calls.quiet_of_same (heightMay_any _ _)))
        go_wp2
        go_ret
        exact ⟨by first | rfl | (rw [hf]; rfl), dn HB.out _⟩
      have d0 : decide (a ≤ a0) = false := by simp; omega
      by_cases c2 : hgt i = true
      case neg =>
        have c2 : hgt i = false := by simpa using c2
        have hf : effG (-1) es = false := HF.out (.inr (.inl c2))
        clear HF HT
        go_wp2_with fail
        go_quiet (first | (go_at_call 94; exact Calls.quiet_of_same (heightMay_any _ _)))
        go_wp2
        go_ret
        exact ⟨by first | rfl | (rw [hf]; rfl), dn HB.out _⟩
      by_cases c3 : hgt o = true
      case neg =>
        have c3 : hgt o = false := by simpa using c3
        have hf : effG (-1) es = false := HF.out (.inr (.inr c3))
        clear HF HT
        go_wp2_with fail
        go_quiet (first | (go_at_call 94; exact Calls.quiet_of_same (heightMay_any _ _)))
        go_wp2
        go_ret
        exact ⟨by first | rfl | (rw [hf]; rfl), dn HB.out _⟩
      have HN := hid (HT.out hq c2 c3)
      clear HF HT hq
      go_wp2_with fail
      go_quiet (first | (go_at_call 94; exact Calls.quiet_of_same (heightMay_any _ _)))
      go_wp2
      go_roundw
      case rel =>
        first
          | exact ⟨(j + 1) + 1, by omega, by go_num, HN.out, dn HB.out _⟩
          | ((repeat apply Exists.intro); refine ⟨⟨(j + 1) + 1, by omega, ?_, HN.out, dn HB.out _⟩, rfl⟩; go_num)
      case measure => simp [intOf]; omega
theorem check_any (v : Value) (c : Ct) (ep : Option Addr) (ec : Nat) (bp : Option Addr) (bc : Nat) (kv : Value) (w : World) (h : IsC w v c ep ec bp bc kv) :
    Calls Tryz.prog 28 #[v] w fun e w' => e = .returned (.int .i64 (if may c then 0 else 74)) ∧ Below w.heap.size w w' := by
  obtain ⟨kp, kc, rfl, _⟩ := h.code.ex
  have hv := h.val
  subst hv
  unfold cv
  have hB0 : Below w.heap.size w (w.alloc (.cells #[.slice kp c.code.length kc, .int .u16 (c.entry : Int), .slice ep c.effs.length ec, .slice bp c.banks.length bc] 27)) := (Below.refl _ _).alloc (Nat.le_refl _) _
  have h1 := codeMay_any kp c.code.length kc c.code rfl h.clen (w.alloc (.cells #[.slice kp c.code.length kc, .int .u16 (c.entry : Int), .slice ep c.effs.length ec, .slice bp c.banks.length bc] 27))
  have hel := h.elen
  have hbl := h.blen
  have h2 := effectsMay_any ep ec c.effs (by unfold room at *; omega) _ (h.effs.below hB0)
  have h3 := fun W (hW : Below w.heap.size w W) => banksMay_any bp bc c.banks (by unfold room at *; omega) W (h.banks.below hW)
  have hN : (w.alloc (.cells #[.slice kp c.code.length kc, .int .u16 (c.entry : Int), .slice ep c.effs.length ec, .slice bp c.banks.length bc] 27)).heap[w.heap.size]? = some (.cells [.slice kp c.code.length kc, .int .u16 (c.entry : Int), .slice ep c.effs.length ec, .slice bp c.banks.length bc].toArray 27 (0, 0)) := heap_alloc_new w _
  have hm : may c = (codeB c.code && effsB c.effs && bankG (-1) c.banks) := rfl
  have HM := hid hm
  have HB := hid hB0
  have HN := hid hN
  clear hm hB0 hN h hel hbl
  by_cases c1 : codeB c.code = true
  case neg =>
    have c1 : codeB c.code = false := by simpa using c1
    have hf : may c = false := by rw [HM.out, c1]; rfl
    rw [c1] at h1
    simp only [hf, Bool.false_eq_true, if_false]
    go_enter Tryz.func28, Tryz.ntmps28
    go_wp2_with (first | (go_at_call 58; refine h1.mono ?_; rintro e w1 ⟨rfl, rfl⟩))
    go_ret
    exact ⟨rfl, HB.out⟩
  rw [c1] at h1
  by_cases c2 : effsB c.effs = true
  case neg =>
    have c2 : effsB c.effs = false := by simpa using c2
    have hf : may c = false := by rw [HM.out, c1, c2]; rfl
    rw [c2] at h2
    simp only [hf, Bool.false_eq_true, if_false]
    clear c1 c2
    go_enter Tryz.func28, Tryz.ntmps28
    go_wp2_with (first | (go_at_call 58; refine h1.mono ?_; rintro e w1 ⟨rfl, rfl⟩) | (go_at_call 59; refine h2.mono ?_; rintro e w1 ⟨rfl, hb⟩))
    go_ret
    exact ⟨rfl, HB.out.trans (hb.mono HB.out.size)⟩
  rw [c2] at h2
  have hf : may c = bankG (-1) c.banks := by rw [HM.out, c1, c2]; rfl
  have HK := hid (fun w1 (hb : Below (w.alloc (.cells #[.slice kp c.code.length kc, .int .u16 (c.entry : Int), .slice ep c.effs.length ec, .slice bp c.banks.length bc] 27)).heap.size (w.alloc (.cells #[.slice kp c.code.length kc, .int .u16 (c.entry : Int), .slice ep c.effs.length ec, .slice bp c.banks.length bc] 27)) w1) =>
    And.intro (cell_of w1 w.heap.size 3 _ 27 _ ((hb.block w.heap.size (by simp)).trans HN.out) rfl) (HB.out.trans (hb.mono HB.out.size)))
  rw [hf]
  clear c1 c2 hf
  by_cases c3 : bankG (-1) c.banks = true
  · rw [c3] at h3 ⊢
    clear c3
    go_enter Tryz.func28, Tryz.ntmps28
    go_wp2_with (first | (go_at_call 58; refine h1.mono ?_; rintro e w1 ⟨rfl, rfl⟩) | (go_at_call 59; refine h2.mono ?_; rintro e w1 ⟨rfl, hb⟩; obtain ⟨k3, hb1⟩ := HK.out w1 hb; have h3' := h3 w1 hb1; have HB1 := hid hb1; clear hb hb1 h3 HK) | (go_at_call 60; refine h3'.mono ?_; rintro e w2 ⟨rfl, hb2⟩))
    go_ret
    exact ⟨rfl, HB1.out.trans (hb2.mono HB1.out.size)⟩
  · have c3 : bankG (-1) c.banks = false := by simpa using c3
    rw [c3] at h3 ⊢
    clear c3
    go_enter Tryz.func28, Tryz.ntmps28
    go_wp2_with (first | (go_at_call 58; refine h1.mono ?_; rintro e w1 ⟨rfl, rfl⟩) | (go_at_call 59; refine h2.mono ?_; rintro e w1 ⟨rfl, hb⟩; obtain ⟨k3, hb1⟩ := HK.out w1 hb; have h3' := h3 w1 hb1; have HB1 := hid hb1; clear hb hb1 h3 HK) | (go_at_call 60; refine h3'.mono ?_; rintro e w2 ⟨rfl, hb2⟩))
    go_ret
    exact ⟨rfl, HB1.out.trans (hb2.mono HB1.out.size)⟩
end Go.Proofs.YteldjmecomngeaaGreat.T
