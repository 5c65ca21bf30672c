import Derived.Test.YtoemoiehjdmheaaGreatZDon
namespace Go.Proofs.YtoemoiehjdmheaaGreat.Z
open Go.RowKit
open Go.Proofs
open Go.Proofs.YtoemoiehjdmheaaGreat.Y (Nd Df Ps Pl hid ZV)
set_option linter.unusedVariables false
set_option linter.unusedSimpArgs false
set_option maxHeartbeats 4000000
set_option maxRecDepth 100000
theorem turn_oc (v : VS) : (turn v).v.o = v.o /\ (turn v).v.c = v.c /\ (turn v).v.m = v.m /\ (turn v).v.fa = v.fa /\ (turn v).v.st = v.st := by
  unfold turn
  repeat' split
  all_goals exact ⟨rfl, rfl, rfl, rfl, rfl⟩
theorem dn_oc (op x : Int) (v : VS) : (dn op x v).v.o = v.o /\ (dn op x v).v.c = v.c /\ (dn op x v).v.fa = v.fa := by
  unfold dn
  split
  · split <;> exact ⟨rfl, rfl, rfl⟩
  · split <;> exact ⟨rfl, rfl, rfl⟩
  · exact ⟨rfl, rfl, rfl⟩
  · split <;> exact ⟨rfl, rfl, rfl⟩
  · have := turn_oc v; exact ⟨this.1, this.2.1, this.2.2.2.1⟩
  · exact ⟨rfl, rfl, rfl⟩
  · exact ⟨rfl, rfl, rfl⟩
  · unfold pl; simp only; split <;> exact ⟨rfl, rfl, rfl⟩
theorem turn_same (v : VS) : (turn v).f ≠ 0 -> (turn v).v = v := by
  unfold turn
  repeat' split
  all_goals first | (intro _; rfl) | (intro h; exact absurd rfl h)
theorem dn_same (op x : Int) (v : VS) : (dn op x v).f ≠ 0 -> (dn op x v).v = v := by
  unfold dn
  split
  · split
    · intro _; rfl
    · intro h; exact absurd rfl h
  · split
    · intro _; rfl
    · intro h; exact absurd rfl h
  · intro h; exact absurd rfl h
  · split
    · intro _; rfl
    · intro h; exact absurd rfl h
  · exact turn_same v
  · intro h; exact absurd rfl h
  · intro h; exact absurd rfl h
  · intro h
    unfold pl at h ⊢
    simp only at h ⊢
    rw [if_neg h]
theorem okI_parts {op : Int} {w : List (List Mn)} (h : okI op w = true) : 1 <= op /\ op <= 63 /\ (op = 1 -> ∃ l, w = [l]) := by
  unfold okI at h
  simp only [Bool.and_eq_true, decide_eq_true_eq, Bool.or_eq_true, bne_iff_ne, ne_eq, beq_iff_eq] at h
  refine ⟨h.1.1, h.1.2, fun e => ?_⟩
  rcases h.2 with h | h
  · exact absurd e h
  · obtain ⟨l, hl⟩ : ∃ l, w = [l] := by
      match w, h with
      | [l], _ => exact ⟨l, rfl⟩
    exact ⟨l, hl⟩
section
variable (v : VS) (g bd br bm bs c : Nat) (F O : Nat -> Prop) (W : World)
theorem calls_le (v : VS) (hk : calls v.R = v.o.length) (hw : Wf v) : v.o.length <= 128 := by
  have h1 : calls v.R <= v.R.length := List.length_filter_le _ _
  have := hw.l; omega
theorem do_any (i : In) (hok : okI i.op i.w = true) (hlb : ∀ b ∈ i.w, okL b) (hx : C.C i.v) (wq : Option Addr) (hw : WP W O (.pointer wq) i.w i.wp) (ht : v.m.tones.length <= 999000) (hk : calls v.R = v.o.length) (h : MV W g bd br bm bs c F O v) :
    Calls Tryz.prog 39 #[.pointer (some ⟨g, 0, none⟩), .agg #[.int .i64 i.op, .int .u16 i.v, .pointer wq, .int .i64 i.p.1, .int .i64 i.p.2]] W fun e w' => e = .returned (.int .i64 (doo i v).1) /\ VD W w' g bd br bm bs F O (doo i v).2 := by
  obtain ⟨o1, o2, o3⟩ := okI_parts hok
  have hl := calls_le v hk h.wf
  obtain ⟨W1, hW1, hb1, u1, hs1⟩ := boxn W i.op i.v wq i.p
  have hM := h.below hb1
  have x0 := S.cell_of W1 _ 0 _ _ _ u1 rfl
  have x1 := S.cell_of W1 _ 1 _ _ _ u1 rfl
  have x2 := S.cell_of W1 _ 2 _ _ _ u1 rfl
  have x3 := S.cell_of W1 _ 3 _ _ _ u1 rfl
  have x4 := S.cell_of W1 _ 4 _ _ _ u1 rfl
  have HW1 := hid hW1
  have HB1 := hid hb1
  by_cases q1 : i.op = 1
  · obtain ⟨l, hl1⟩ := o3 q1
    have ht : doo i v = enter [l] i.wp v := by unfold doo; rw [if_pos q1, hl1]
    rw [ht]
    rcases hw with ⟨e, _⟩ | ⟨wb, l', bv, e, ew, hOb, hblk, hN⟩
    · rw [hl1] at e; cases e
    rw [hl1] at e
    obtain rfl : l = l' := by injection e
    cases ew
    have ke := enter_any v g bd br bm bs c F O W1 hM hl wb l bv i.wp ((hb1.block _ (h.ol _ hOb)).trans hblk) (hN.below hb1 h.ol) hOb (hlb l (by rw [hl1]; simp))
    have e1 : (i.op == 1) = true := by simpa using q1
    have HP := hid ht
    clear h hM u1 hW1 hs1 hb1 ht hblk hN hOb hok hlb hx hk o1 o2 o3 q1 hl1 e
    go_enter Tryz.func39, Tryz.ntmps39
    go_upto_region 1 with fail
    rw [HW1.out]
    go_wp2_with fail
    refine ke.mono ?_
    rintro e w2 ⟨rfl, hV⟩
    have HV := hid (VD.pre HB1.out hV)
    clear ke hV x0 x1 x2 x3 x4
    go_wp2
    go_ret
    exact ⟨rfl, HV.out⟩
  have e1 : (i.op == 1) = false := by simpa using q1
  by_cases q8 : i.op = 8
  · have ht : doo i v = leave v := by unfold doo; rw [if_neg q1, if_pos q8]
    rw [ht]
    have ke := exit_any v g bd br bm bs c F O W1 hM hk
    have e8 : (i.op == 8) = true := by simpa using q8
    clear h hM u1 hW1 hs1 hb1 ht hok hlb hx hk o1 o2 o3 q1 q8 hw
    go_enter Tryz.func39, Tryz.ntmps39
    go_upto_region 1 with fail
    rw [HW1.out]
    go_wp2_with fail
    refine ke.mono ?_
    rintro e w2 ⟨rfl, hV⟩
    have HV := hid (VD.pre HB1.out hV)
    clear ke hV x0 x1 x2 x3 x4
    go_wp2
    go_ret
    exact ⟨rfl, HV.out⟩
  have e8 : (i.op == 8) = false := by simpa using q8
  have hdo : doo i v = ((dn i.op i.v v).f, if (dn i.op i.v v).f = 0 then { (dn i.op i.v v).v with c := onc (dn i.op i.v v).v.c (dn i.op i.v v).b } else v) := by unfold doo; rw [if_neg q1, if_neg q8]
  rw [hdo]
  obtain ⟨n, hn⟩ : ∃ n : Nat, i.op = (n : Int) := ⟨i.op.toNat, by omega⟩
  have kd := done_any n (by omega) (by omega) (by omega) (by omega) i.v hx wq i.p v ht g bd br bm bs c F O W1 hM
  rw [<- hn] at kd
  unfold DnO at kd
  have hoc := (dn_oc i.op i.v v).1
  have hsm := dn_same i.op i.v v
  generalize dn i.op i.v v = d at *
  obtain ⟨vv, hvv⟩ : ∃ vv, vv = (if d.f = 0 then { d.v with c := onc d.v.c d.b } else v) := ⟨_, rfl⟩
  rw [<- hvv]
  have HVV := hid hvv
  clear hvv
  have HD := hid (And.intro hoc (And.intro hsm hl))
  clear h hM u1 hW1 hs1 hb1 ht hok hlb hx hk o1 o2 o3 q1 q8 hw hoc hsm hdo hn hl
  go_enter Tryz.func39, Tryz.ntmps39
  go_upto_region 1 with fail
  rw [HW1.out]
  go_wp2_with fail
  refine kd.mono ?_
  rintro e w2 ⟨rfl, hV⟩
  have hV := VD.pre HB1.out hV
  by_cases q : d.f = 0
  · obtain ⟨bs1, c1, F1, hM1, hF1, hbs1⟩ := hV.s
    have kg := goon_any hM1 (by rw [HD.out.1]; exact HD.out.2.2) d.b
    have e0 : (d.f == 0) = true := by simpa using q
    have hvv : vv = { d.v with c := onc d.v.c d.b } := by rw [HVV.out, if_pos q]
    subst hvv
    have HV := hid (And.intro hV (And.intro hF1 hbs1))
    clear kd hV hM1 hF1 hbs1 x0 x1 x2 x3 x4
    go_wp2_with fail
    refine kg.mono ?_
    rintro e w3 ⟨rfl, hV3⟩
    have HV3 := hid (VD.step HV.out.1.t HV.out.2.1 HV.out.2.2 hV3)
    clear kg hV3
    go_wp2
    go_ret
    exact ⟨by first | rfl | rw [q], HV3.out⟩
  · have e0 : (d.f == 0) = false := by simpa using q
    rw [HD.out.2.1 q] at hV
    have hvv : vv = v := by rw [HVV.out, if_neg q]
    subst hvv
    have HV := hid hV
    clear kd hV x0 x1 x2 x3 x4
    go_wp2
    go_ret
    exact ⟨rfl, HV.out⟩
end
set_option maxHeartbeats 4000000
set_option maxRecDepth 100000
theorem st_tones (m : M.MS) (z : Int) (x : UInt8) : (M.st m z x).tones.length <= m.tones.length + 1 := by
 unfold M.st
 split
 ·omega
 ·split
  ·split <;> simp
  ·split
   ·simp
   ·split
    ·simp
    ·unfold M.stp
     split
     ·simp
     ·split
      ·simp
      ·split
       ·simp
       ·split <;> simp
theorem mem_tones (op x y z : Int) (m : M.MS) : (P.memN op x y z m).tones.length <= m.tones.length + 3 := by
 have sc : ∀ (m : M.MS) (a b : Int), (M.sc m a b).tones.length <= m.tones.length + 2 := fun m a b => by
  have h1 := st_tones (M.st m a (M.b8 b)) ((a + 1) % 65536) (M.b8 (b / 256))
  have h2 := st_tones m a (M.b8 b)
  unfold M.sc; omega
 unfold P.memN
 split
 ·have := sc m y x; omega
 ·have := st_tones m y (M.b8 x); omega
 ·have := sc m y ((M.cl m y + x) % 65536); omega
 ·unfold M.plt
  split
  ·have := st_tones m (49152 + 64 * y + x) (M.b8 z); omega
  ·omega
 ·have h1 := st_tones (M.sc m 65284 x) 65286 (M.b8 y)
  have h2 := sc m 65284 x
  omega
 ·have := st_tones m 65280 (M.b8 x); omega
 ·omega
theorem dn_tones (op x : Int) (v : VS) : (dn op x v).v.m.tones.length <= v.m.tones.length + 3 := by
 unfold dn
 split
 ·split <;> simp
 ·split <;> simp
 ·simp
 ·split <;> simp
 ·rw [(turn_oc v).2.2.1]; omega
 ·simp
 ·simp
 ·unfold pl; simp only
  split
  ·exact mem_tones _ _ _ _ _
  ·omega
theorem doo_tones (i : In) (v : VS) : (doo i v).2.m.tones.length <= v.m.tones.length + 3 := by
 unfold doo
 split
 ·unfold enter; split <;> simp
 ·split
  ·unfold leave; split
   ·simp
   ·split <;> simp
  ·simp only
   split
   ·exact dn_tones _ _ _
   ·omega
theorem calls_rev (t : List (Int × Int)) : calls t.reverse = calls t := by unfold calls; rw [List.filter_reverse, List.length_reverse]
theorem calls_cons (q : Int × Int) (t : List (Int × Int)) : calls (q :: t) = (if q.1 = 1 then 1 else 0) + calls t := by
 unfold calls
 by_cases h : q.1 = 1
 ·rw [List.filter_cons_of_pos (by simpa using h), if_pos h, List.length_cons]; omega
 ·rw [List.filter_cons_of_neg (by simpa using h), if_neg h]; omega
theorem turn_calls (v : VS) : calls (turn v).v.R = calls v.R := by
 unfold turn
 cases e : v.R.reverse with
 | nil => rfl
 | cons q t =>
  obtain ⟨k, i⟩ := q
  by_cases hk : k = 3
  ·subst hk
   simp only [ne_eq, not_true_eq_false, if_false]
   cases t with
   | nil => rfl
   | cons q2 t2 =>
    obtain ⟨k2, l⟩ := q2
    have hv : calls v.R = calls ((3, i) :: (k2, l) :: t2) := by rw [<- e, calls_rev]
    by_cases hk2 : k2 = 2
    ·subst hk2
     simp only [not_true_eq_false, if_false]
     rw [hv, calls_cons, calls_cons]
     by_cases h3 : (i + 1) % 65536 = l
     ·rw [if_neg (by simpa using h3)]
      simp only [calls_rev]; simp
     ·rw [if_pos (by simpa using h3)]
      simp only [calls_app, calls_rev, calls_cons]; simp [calls]
    ·simp only [hk2, not_false_eq_true, if_true]
  ·simp only [ne_eq, hk, not_false_eq_true, if_true]
theorem ret_calls (op : Int) (D : List Int) (R : List (Int × Int)) (h : P.fl op D R = 0) : calls (P.nR op D R) = calls R := by
 unfold P.nR P.retN
 split
 ·rw [calls_app, calls_cons, calls_cons]; simp [calls]
 ·rw [calls_app, calls_cons]; simp [calls]
 ·have hl := (P.flt0 h).2.2.1
  have hl : (P.lk 4 0 R).2 = 0 := hl
  unfold P.lk at hl
  rw [if_neg (by decide)] at hl
  split at hl
  ·simp at hl
  ·rename_i hne
   split at hl
   ·rename_i hk
    rcases List.eq_nil_or_concat R with rfl | ⟨t, q, rfl⟩
    ·simp at hne
    ·simp at hk
     simp only [List.concat_eq_append, List.length_append, List.length_cons, List.length_nil, Nat.zero_add, Nat.add_sub_cancel, List.take_left', calls_app, calls_cons, hk]
     simp [calls]
   ·simp at hl
 ·rfl
theorem dn_calls (op x : Int) (v : VS) : calls (dn op x v).v.R = calls v.R := by
 unfold dn
 split
 ·split <;> rfl
 ·split <;> rfl
 ·rfl
 ·split <;> rfl
 ·exact turn_calls v
 ·rfl
 ·rfl
 ·unfold pl; simp only
  split
  ·rename_i h; exact ret_calls _ _ _ h
  ·rfl
theorem doo_calls (i : In) (v : VS) (h : calls v.R = v.o.length) : calls (doo i v).2.R = (doo i v).2.o.length := by
 unfold doo
 split
 ·unfold enter
  split
  ·exact h
  ·simp only [calls_app, calls_cons, List.length_append, h]; simp [calls]
 ·split
  ·unfold leave
   split
   ·exact h
   ·rename_i k a t e
    split
    ·rename_i hk
     have hv : calls v.R = calls ((k, a) :: t) := by rw [<- e, calls_rev]
     rw [calls_cons, if_pos hk] at hv
     simp only [calls_rev, List.length_take]
     omega
    ·exact h
  ·simp only
   split
   ·simp only [dn_calls, (dn_oc i.op i.v v).1, h]
   ·exact h
theorem rc_r (op : Nat) : 1 <= P.rc op /\ P.rc op <= 4 := by
 unfold P.rc
 split <;> decide
theorem cost_r (op : Int) : 1 <= cost op /\ cost op <= 4 := rc_r _
theorem wk_end (k : Nat) (B : Int) (v : VS) (n s : Int) (h : ¬ (v.st = 1 /\ s < B)) : wk k B v n s = ⟨v, n, s⟩ := by
 cases k with
 | zero => rfl
 | succ k => unfold wk; rw [if_neg h]
theorem wpList_look {ops : Array Oper} {rest : List Oper} {o : Oper} {a : Act} {W W' : World} {O : Nat -> Prop} {Q : Exit -> Act -> World -> Prop} {rq : Operand} {s : String} (hgd : o.guard = none) (ho : o.op = .call { callee := .invoke rq s, args := #[], argTypes := #[] }) (hs : LkI s) (l : List Fr) (e : Ps) (i : In) (hi : lk l e = i) (x : Value) (hx : a.eval rq = x) (hP : PV W O l e x) (hO : ∀ i, O i -> i < W.heap.size) (k : Below W.heap.size W W')
  (h : ∀ wq w', WP W O (.pointer wq) i.w i.wp -> Below W'.heap.size W' w' -> wpList Tryz.prog ops Q rest (a.put o.dst (.agg #[.int .i64 i.op, .int .u16 i.v, .pointer wq, .int .i64 i.p.1, .int .i64 i.p.2])) w') : wpList Tryz.prog ops Q (o :: rest) a W' :=
 wpList_plain hgd fun _ hK => wp_look ho hs l e x hx hP hO k fun v w' hv => by
  obtain ⟨⟨wq, rfl, hwq⟩, hb⟩ := hv
  rw [hi] at hwq ⊢
  exact hK _ _ (h wq w' hwq hb)
set_option maxHeartbeats 4000000
set_option maxRecDepth 100000
structure WI (W wr : World) (g bd br bm bs : Nat) (F O : Nat -> Prop) (B : Int) (v : VS) (k : Nat) (u : VS) (n s : Int) : Prop where
 n0 : 0 <= n
 ns : n <= s
 sB : s <= B
 kk : B - s <= (k : Int)
 eq : wk B.toNat B v 0 0 = wk k B u n s
 d : VD W wr g bd br bm bs F O u
 t : (u.m.tones.length : Int) <= 100000 + 3 * n
 c : calls u.R = u.o.length
theorem VD.ok {W W' : World} {g bd br bm bs c : Nat} {F O : Nat -> Prop} {v v' : VS} (h : VD W W' g bd br bm bs F O v') (k : MV W g bd br bm bs c F O v) (j : Nat) (hj : O j) : W'.heap[j]? = W.heap[j]? :=
 h.t.block j (k.ol j hj) (by
  have := k.ob j hj
  rintro (e | e | e | e | e)
  ·exact this.1 e
  ·exact this.2.1 e
  ·exact this.2.2.1 e
  ·exact this.2.2.2.1 e
  ·exact this.2.2.2.2 e)
theorem doo_same (i : In) (v : VS) (h : (doo i v).1 ≠ 0) : (doo i v).2 = v := by
 unfold doo at h ⊢
 split
 ·rename_i q
  rw [if_pos q] at h
  unfold enter at h ⊢
  split
  ·rfl
  ·rename_i q2; rw [if_neg q2] at h; exact absurd rfl h
 ·rename_i q
  rw [if_neg q] at h
  split
  ·rename_i q
   rw [if_pos q] at h
   unfold leave at h ⊢
   split
   ·rename_i e; rw [e] at h; exact absurd rfl h
   ·rename_i e
    rw [e] at h
    simp only at h
    split
    ·rename_i q2; rw [if_pos q2] at h; exact absurd rfl h
    ·rfl
  ·rename_i q
   rw [if_neg q] at h
   simp only at h ⊢
   rw [if_neg h]
theorem work_any (v : VS) (B : Int) (hB0 : 4 <= B) (hB1 : B <= 16384) (ht : v.m.tones.length <= 100000) (hk : calls v.R = v.o.length) (g bd br bm bs c : Nat) (F O : Nat -> Prop) (W : World) (h : MV W g bd br bm bs c F O v) :
  Calls Tryz.prog 24 #[.pointer (some ⟨g, 0, none⟩), .int .i64 B] W fun e W' => e = .returned (.tuple #[.int .i64 (wk B.toNat B v 0 0).steps, .int .i64 (wk B.toNat B v 0 0).spent]) /\ VD W W' g bd br bm bs F O (wk B.toNat B v 0 0).v := by
 have I0 : WI W W g bd br bm bs F O B v B.toNat v 0 0 := ⟨by omega, by omega, by omega, by omega, rfl, h.same (Below.refl _ W), by omega, hk⟩
 obtain ⟨R, hR⟩ : ∃ R, R = wk B.toNat B v 0 0 := ⟨_, rfl⟩
 rw [<- hR]
 have HI := hid I0
 have HR := hid hR
 have H0 := hid h
 clear h I0 hR ht hk
 go_enter Tryz.func24, Tryz.ntmps24
 go_wp2_with fail
 go_loopw [4, 5] (fun a b wr => ∃ (k : Nat) (u : VS) (n s : Int), a = .int .i64 n /\ b = .int .i64 s /\ WI W wr g bd br bm bs F O B v k u n s) (fun _ b _ => (B - intOf b).toNat)
 case atStart => exact ⟨B.toNat, v, 0, 0, rfl, rfl, HI.out⟩
 case round =>
  obtain ⟨k, u, n, s, rfl, rfl, I⟩ := hrel
  clear HI
  obtain ⟨bs1, c1, F1, hM, hF1, hbs1⟩ := I.d.s
  have c0 := hM.c0
  have HI := hid I
  by_cases q : u.st = 1 /\ s < B
  case neg =>
   have e : R = ⟨u, n, s⟩ := by rw [HR.out, HI.out.eq, wk_end k B u n s q]
   subst e
   clear I hM hF1
   by_cases q1 : u.st = 1
   ·have e1 : (u.st == 1) = true := by simpa using q1
    have e2 : decide (s < B) = false := decide_eq_false (fun c => q ⟨q1, c⟩)
    go_wp2
    go_ret2
    exact ⟨rfl, HI.out.d⟩
   ·have e1 : (u.st == 1) = false := by simpa using q1
    go_wp2
    go_ret2
    exact ⟨rfl, HI.out.d⟩
  obtain ⟨q1, q2⟩ := q
  have e1 : (u.st == 1) = true := by simpa using q1
  have e2 : decide (s < B) = true := decide_eq_true q2
  have kh := here_any hM (calls_le u I.c hM.wf)
  have hkk : ∃ k', k = k' + 1 := ⟨k - 1, by have := I.kk; omega⟩
  obtain ⟨k', rfl⟩ := hkk
  have hwk : R = wk (k' + 1) B u n s := by rw [HR.out, I.eq]
  unfold wk at hwk
  rw [if_pos ⟨q1, q2⟩] at hwk
  have hlo := lk_ok u.c.fr u.c.e hM.wf.c
  have hlook : lk u.c.fr u.c.e = look u := rfl
  rw [hlook] at hlo
  generalize look u = i at *
  obtain ⟨o1, o2, o3⟩ := okI_parts hlo.1.1
  obtain ⟨m, hm⟩ : ∃ m : Nat, i.op = (m : Int) := ⟨i.op.toNat, by omega⟩
  have hco : cost i.op = P.rc m := by unfold cost; rw [hm]; rfl
  have kc := fun wq W' => cost_any m (by omega) (by omega) i.v wq i.p W'
  rw [<- hm] at kc
  rw [hco] at hwk
  have hrc := rc_r m
  generalize P.rc m = co at *
  have HW := hid hwk
  have HL := hid (And.intro hlo (And.intro hlook (And.intro hF1 hbs1)))
  have w1' : wrap64 (B - s) = B - s := by have := I.n0; have := I.ns; simp [wrap64]; omega
  have HM := hid hM
  have HKC := hid kc
  clear I hwk hlo hlook hF1 hM hm o1 o2 o3 hco kc
  go_wp2_with fail
  refine kh.mono ?_
  rintro e w1 ⟨x, rfl, hP, hb1⟩
  have HP := hid (And.intro hP hb1)
  clear kh hP hb1 c0
  go_wp2_with (refine wpList_look (W := wr) (O := O) rfl rfl (by refine ⟨?_, ?_, ?_, ?_, ?_, ?_, ?_, ?_, ?_⟩ <;> intros <;> kernel_rfl) u.c.fr u.c.e i HL.out.2.1 x (by rfl) HP.out.1 HM.out.ol HP.out.2 (fun wq w2 hwq hb2 => ?_); have HQ := hid (And.intro hwq (trB HP.out.2 hb2 HP.out.2.size)); clear hwq hb2)
  obtain ⟨W4, hW4, hb4, u4, hs4⟩ := boxn w2 i.op i.v wq i.p
  rw [hW4]
  have hB4 := trB HQ.out.2 hb4 HQ.out.2.size
  refine (HKC.out wq W4).mono ?_
  rintro e w5 ⟨rfl, hb5⟩
  have hB5 := trB hB4 hb5 hB4.size
  have u5 := (hb5.block _ (S.lt_of u4)).trans u4
  have hbx := HQ.out.2.size
  have hM5 := HM.out.below hB5
  have hV5 := HI.out.d.post hB5
  have HBX := hid (And.intro hbx u5)
  have HV5 := hid hV5
  have HB5 := hid hB5
  have HM5 := hid hM5
  clear hW4 hb4 u4 hs4 hB4 hb5 hB5 u5 hbx hV5
  by_cases q4 : B - s < co
  ·have e : R = ⟨u, n, s⟩ := by rw [HW.out, if_pos q4]
   subst e
   have e3 : decide (B - s < co) = true := decide_eq_true q4
   clear hM5 HW HR
   go_wp2
   go_ret2
   exact ⟨rfl, HV5.out⟩
  have e3 : decide (B - s < co) = false := decide_eq_false q4
  have hwk := HW.out
  rw [if_neg q4] at hwk
  clear HW
  have HW := hid hwk
  have c4 := hM5.c4
  have ka := M.at_any bm s _ hM5.ps.m
  clear hwk hM5
  go_wp2_with fail
  refine ka.mono ?_
  rintro e w6 ⟨rfl, ha⟩
  have hV6 : VD w5 w6 g bd br bm bs1 F1 O (cyc s u) := HM5.out.goes (HM5.out.ps.mem ha) ⟨HM5.out.wf.d, HM5.out.wf.r, HM5.out.wf.c, HM5.out.wf.o, HM5.out.wf.l⟩
  have u6 := (hV6.other HM.out HB5.out.size _ HBX.out.1 (S.lt_of HBX.out.2)).trans HBX.out.2
  have hok : ∀ j, O j -> w6.heap[j]? = wr.heap[j]? := fun j hj => (hV6.ok HM5.out j hj).trans (HB5.out.block j (HM.out.ol j hj))
  obtain ⟨bs2, c2, F2, hM6, hF2, hbs2⟩ := hV6.s
  have kd := do_any (cyc s u) g bd br bm bs2 c2 F2 O w6 i HL.out.1.1.1 HL.out.1.2 HL.out.1.1.2 wq (HQ.out.1.keep hok fun _ h => h) (by have := HI.out.t; have := HI.out.ns; have := HI.out.sB; show u.m.tones.length <= 999000; omega) HI.out.c hM6
  have HV6 := hid (And.intro hV6 (And.intro hF2 (And.intro hbs2 u6)))
  have HM6 := hid hM6
  have hd1 := doo_tones i (cyc s u)
  have hd2 := doo_calls i (cyc s u) HI.out.c
  have hd3 := doo_same i (cyc s u)
  have HD := hid (And.intro hd1 (And.intro hd2 hd3))
  clear ka ha hV6 hok hM6 hF2 hbs2 c4 hd1 hd2 hd3
  go_wp2_with (refine wpList_load_row rfl 84 _ rfl _ rfl 84 _ (0, 0) _ u6 Tryz.underlying84 rfl (by exact sizeIN) ?_)
  refine kd.mono ?_
  rintro e w7 ⟨rfl, hd⟩
  have hV7 := VD.step HV6.out.1.t HV6.out.2.1 HV6.out.2.2.1 hd
  have u7 := (hV7.other HM.out HB5.out.size _ HBX.out.1 (S.lt_of HBX.out.2)).trans HBX.out.2
  have hF : VD W w7 g bd br bm bs F O (doo i (cyc s u)).2 := VD.step HI.out.d.t HL.out.2.2.1 HL.out.2.2.2 (VD.pre HB5.out hV7)
  have HF := hid hF
  have HU := hid u7
  clear kd u6 hF u7
  by_cases q5 : (doo i (cyc s u)).1 = 0
  case neg =>
   have e : R = ⟨fail (doo i (cyc s u)).1 (cyc s u), n, s⟩ := by rw [HW.out, if_neg q5]
   have es := HD.out.2.2 q5
   rw [es] at hd hV7
   obtain ⟨bs3, c3, F3, hM7, hF3, hbs3⟩ := hV7.s
   have f2 : ((doo i (cyc s u)).1 != 0) = true := by simpa using q5
   have c0 := hM7.c0
   have c1' := hM7.c1
   have z0 := fz hM7 0
   have z1 := fz hM7 1
   have kf : VD w7 ((w7.setCell ⟨g, 0, none⟩ (.int .i64 3)).setCell ⟨g, 1, none⟩ (.int .i64 (doo i (cyc s u)).1)) g bd br bm bs3 F3 O (fail (doo i (cyc s u)).1 (cyc s u)) := ((hM7.st 3).fa _).vd (((S.Tc.refl _ _).setCell g 0 (.inl rfl) _).setCell g 1 (.inl rfl) _)
   have hG : VD W _ g bd br bm bs F O (fail (doo i (cyc s u)).1 (cyc s u)) := VD.step HI.out.d.t HL.out.2.2.1 HL.out.2.2.2 (VD.pre HB5.out (VD.step hV7.t hF3 hbs3 kf))
   have HG := hid hG
   generalize (doo i (cyc s u)).1 = ff at *
   subst e
   clear hd hV7 hM7 hF3 hbs3 kf hG es HW HR HD HF
   go_wp2
   go_ret2
   exact ⟨rfl, HG.out⟩
  have hwk := HW.out
  rw [if_pos q5] at hwk
  have n1 := HI.out.n0
  have n2 := HI.out.ns
  have w2' : wrap64 (n + 1) = n + 1 := by simp [wrap64]; omega
  have w3' : wrap64 (s + co) = s + co := by simp [wrap64]; omega
  have u7 := HU.out
  rw [q5]
  clear HW hd hV7
  have HW := hid hwk
  clear hwk
  go_wp2_with (refine wpList_load_row rfl 84 _ rfl _ rfl 84 _ (0, 0) _ u7 Tryz.underlying84 rfl (by exact sizeIN) ?_)
  refine (HKC.out wq w7).mono ?_
  rintro e w8 ⟨rfl, hb8⟩
  have x0 := S.cell_of w8 _ 0 _ _ _ ((hb8.block _ (S.lt_of u7)).trans u7) rfl
  have hV8 := HF.out.post hb8
  have HV8 := hid hV8
  clear hb8 u7 hV8
  by_cases q6 : i.op = 10
  ·have e : R = ⟨(doo i (cyc s u)).2, n + 1, s + co⟩ := by rw [HW.out, if_pos q6]
   subst e
   have e5 : (i.op == 10) = true := by simpa using q6
   clear HW n1 n2 hrc q6 HR HD
   go_wp2
   go_ret2
   exact ⟨rfl, HV8.out⟩
  ·have e5 : (i.op == 10) = false := by simpa using q6
   have HN : Y.Hd (WI W w8 g bd br bm bs F O B v k' (doo i (cyc s u)).2 (n + 1) (s + co)) := hid ⟨by omega, by omega, by omega, by have := HI.out.kk; omega, by rw [<- HR.out, HW.out, if_neg q6], HV8.out, by have h1 := HI.out.t; have h2 : (cyc s u).m.tones = u.m.tones := rfl; have h3 := HD.out.1; rw [h2] at h3; omega, HD.out.2.1⟩
   have hm : (B - (s + co)).toNat < (B - s).toNat := by omega
   clear HW n1 n2 HI HV8 HR HD HF
   go_wp2
   go_roundw
   case rel =>
    exact ⟨k', _, n + 1, s + co, rfl, by rw [w3'], HN.out⟩
   case measure => simp only [intOf, w3']; exact hm
set_option maxHeartbeats 4000000
set_option maxRecDepth 100000
theorem step_store_row {ops : Array Oper} {o : Oper} {a : Act} {w : World} {K : Act -> World -> Prop} {Q : Exit -> Act -> World -> Prop} {E : Prop} (hgd : o.guard = none) (ty : TypeId) (x y : Operand) (ho : o.op = .store ty x y)
  (g : Nat) (cells : Array Value) (hx : a.eval x = .pointer (some ⟨g, 0, none⟩)) (hy : a.eval y = .agg cells)
  (t : TypeId) (old : Array Value) (hg : w.heap[g]? = some (.cells old t (0, 0))) (hi : (Tryz.prog.info? ty).map (·.size) = some cells.size)
  (hold : old.size = cells.size) (h1 : cells.all (·.oneCell') = true) (h : K (a.put o.dst undef) (w.setRow g cells)) :
  if Region.wanted o (yielded ops a.tmps) = true then Oper.wp Tryz.prog o a w K Q else E := by
 have hw : Region.wanted o (yielded ops a.tmps) = true := by simp [Region.wanted, hgd]
 rw [if_pos hw]
 exact wp_store_row ty x y ho g cells hx hy t old hg hi hold h1 h
theorem own_lt {w : World} {B : Nat} {e : TypeId} {size : Nat} {v : Value} {n : Nat} {xs : List Value} (h : w.ownsRow B e size v n xs) (k : Nat) (hk : v.ownBlock = some k) : B <= k /\ k < w.heap.size := by
 rcases h.2 with ⟨rfl, _⟩ | ⟨g, cap, cur, rfl, h2, h3, _⟩
 ·simp [Value.ownBlock] at hk
 ·simp [Value.ownBlock] at hk; subst hk; exact ⟨h2, S.lt_of h3⟩
theorem own_form {w : World} {B : Nat} {e : TypeId} {size : Nat} {v : Value} {n : Nat} {xs : List Value} (h : w.ownsRow B e size v n xs) : ∃ p cap, v = .slice p n cap := by
 rcases h.2 with ⟨h, e⟩ | ⟨g, cap, cur, h1, _⟩
 ·exact ⟨none, 0, by rw [h, e]⟩
 ·exact ⟨_, cap, h1⟩
theorem wk_tones (B : Int) : ∀ (k : Nat) (v : VS) (n s : Int), (wk k B v n s).v.m.tones.length <= v.m.tones.length + 3 * k
 | 0, v, n, s => by simp [wk]
 | k + 1, v, n, s => by
  have hd := doo_tones (look v) (cyc s v)
  have hc : (cyc s v).m.tones.length = v.m.tones.length := rfl
  have ih := wk_tones B k (doo (look v) (cyc s v)).2 (n + 1) (s + cost (look v).op)
  unfold wk
  split
  ·split
   ·simp only; omega
   ·split
    ·split
     ·simp only; omega
     ·omega
    ·show (cyc s v).m.tones.length <= _; omega
  ·simp only; omega
theorem wk_r (B : Int) : ∀ (k : Nat) (v : VS) (n s : Int), s <= B -> n <= (wk k B v n s).steps /\ (wk k B v n s).steps - n <= (wk k B v n s).spent - s /\ (wk k B v n s).spent - s <= 4 * ((wk k B v n s).steps - n) /\ (wk k B v n s).spent <= B
 | 0, v, n, s, h => by simp [wk]; omega
 | k + 1, v, n, s, h => by
  have hr := cost_r (look v).op
  unfold wk
  split
  ·split
   ·simp only; omega
   ·rename_i q1 q2
    have ih := wk_r B k (doo (look v) (cyc s v)).2 (n + 1) (s + cost (look v).op) (by omega)
    split
    ·split
     ·simp only; omega
     ·omega
    ·simp only; omega
  ·simp only; omega
theorem wk_calls (B : Int) : ∀ (k : Nat) (v : VS) (n s : Int), calls v.R = v.o.length -> calls (wk k B v n s).v.R = (wk k B v n s).v.o.length
 | 0, v, n, s, h => h
 | k + 1, v, n, s, h => by
  have hd := doo_calls (look v) (cyc s v) h
  have ih := wk_calls B k (doo (look v) (cyc s v)).2 (n + 1) (s + cost (look v).op) hd
  unfold wk
  split
  ·split
   ·exact h
   ·split
    ·split
     ·exact hd
     ·exact ih
    ·exact h
  ·exact h
def z7 : Array Value := #[.int .i64 0, .int .i64 0, .int .i64 0, .int .i64 0, .int .i64 0, .slice none 0 0, .slice none 0 0]
theorem sizeO : (Tryz.prog.info? 28).map (·.size) = some 7 := by kernel_rfl
section
variable {W w w2 w4 : World} {g bd br bm bs c : Nat} {F O : Nat -> Prop} {v u : VS}
theorem MV.c3s (h : MV W g bd br bm bs c F O u) : W.cell? ⟨g, 0, none⟩ = some (.int .i64 u.st) /\ W.cell? ⟨g, 1, none⟩ = some (.int .i64 u.fa) /\ W.cell? ⟨g, 4, none⟩ = some (.pointer (some ⟨bm, 0, none⟩)) := ⟨h.c0, h.c1, h.c4⟩
theorem MV.row3 (h : MV W g bd br bm bs c F O u) (N : Nat) (hN : g ≠ N) (c : Array Value) : (W.setRow N c).cell? ⟨g, 0, none⟩ = some (.int .i64 u.st) /\ (W.setRow N c).cell? ⟨g, 1, none⟩ = some (.int .i64 u.fa) /\ (W.setRow N c).cell? ⟨g, 4, none⟩ = some (.pointer (some ⟨bm, 0, none⟩)) := by
 have e : (W.setRow N c).heap[g]? = W.heap[g]? := setRow_other W N g c hN
 exact ⟨(World.cell?_of_block (a := ⟨g, 0, none⟩) e).trans h.c0, (World.cell?_of_block (a := ⟨g, 1, none⟩) e).trans h.c1, (World.cell?_of_block (a := ⟨g, 4, none⟩) e).trans h.c4⟩
theorem MV.setRow (h : MV W g bd br bm bs c F O v) (N : Nat) (x : Array Value) (h1 : N ≠ g) (h2 : N ≠ bd) (h3 : N ≠ br) (h4 : ¬ F N) (h5 : N ≠ bs) (h6 : ¬ O N) : MV (W.setRow N x) g bd br bm bs c F O v := by
 have o : ∀ k, k ≠ N -> (W.setRow N x).heap[k]? = W.heap[k]? := fun k hk => setRow_other W N k x hk
 obtain ⟨xs, hr, hp⟩ := h.row
 exact { h with
  blk := (o _ (Ne.symm h1)).trans h.blk
  ps := ⟨h.ps.d.kept (o _ (Ne.symm h2)), h.ps.r.kept (o _ (Ne.symm h3)), h.ps.m.kept fun k _ f => o k (by rintro rfl; exact h4 f), h.ps.dr, h.ps.fd, h.ps.fr⟩
  row := ⟨xs, S.own_kept hr fun k e _ => o k (by cases e; exact Ne.symm h5), hp.kept (fun k hk => o k (by rintro rfl; exact h6 hk)) fun _ h => h⟩
  ol := fun k e => by rw [setRow_size]; exact h.ol k e
  fl := fun k e => by rw [setRow_size]; exact h.fl k e }
structure VL (w w' : World) (lo g bd br bm bs : Nat) (F O : Nat -> Prop) (v : VS) : Prop where
 l0 : w.heap.size <= lo
 l1 : lo <= w'.heap.size
 s : ∃ bs' c' F', MV w' g bd br bm bs' c' F' O v /\ (∀ i, F' i -> F i \/ (w.heap.size <= i /\ i < lo)) /\ (bs' = bs \/ (w.heap.size <= bs' /\ bs' < lo))
 t : S.Tc (TV g bd br bs F) w w'
theorem VL.vd {w' : World} {lo : Nat} (h : VL w w' lo g bd br bm bs F O u) : VD w w' g bd br bm bs F O u := by
 have l0 := h.l0
 have l1 := h.l1
 obtain ⟨bs', c', F', hM, hF, hb⟩ := h.s
 refine ⟨⟨bs', c', F', hM, fun i hi => ?_, ?_⟩, h.t⟩
 ·rcases hF i hi with hi | ⟨hi, hi'⟩
  ·exact .inl hi
  ·exact .inr ⟨hi, by omega⟩
 ·rcases hb with e | ⟨e, _⟩
  ·exact .inl e
  ·exact .inr e
theorem MV.around (h0 : MV w g bd br bm bs c F O v) (hB : Below w.heap.size w W) (hs : w.heap.size < W.heap.size) (k : VD W w2 g bd br bm bs F O u) (hD : Below w2.heap.size w2 w4) (x : Array Value) :
  VL w (w4.setRow w.heap.size x) w2.heap.size g bd br bm bs F O u := by
 have a1 := k.t.size
 have a2 := hD.size
 have a3 := h0.lt
 have a4 := h0.lt_d
 have a5 := h0.lt_r
 have a6 := h0.lt_s
 obtain ⟨bs2, c2, F2, hM2, hF2, hb2⟩ := k.s
 have nf : ¬ F2 w.heap.size := fun f => by
  rcases hF2 _ f with f | ⟨f, _⟩
  ·have := h0.fl _ f; omega
  ·omega
 have hM : MV (w4.setRow w.heap.size x) g bd br bm bs2 c2 F2 O u := (hM2.below hD).setRow w.heap.size x (by omega) (by omega) (by omega) nf (by rcases hb2 with rfl | e <;> omega) (fun e => by have := h0.ol _ e; omega)
 refine ⟨by omega, by rw [setRow_size]; omega, ⟨bs2, c2, F2, hM, fun i hi => ?_, ?_⟩, ⟨?_, ?_, ?_, ?_, fun i hi n => ?_⟩⟩
 ·rcases hF2 i hi with e | ⟨e, e'⟩
  ·exact .inl e
  ·exact .inr ⟨by omega, e'⟩
 ·rcases hb2 with e | e
  ·exact .inl e
  ·exact .inr ⟨by omega, hM2.lt_s⟩
 ·exact hD.os.trans (k.t.os.trans hB.os)
 ·exact hD.tape.trans (k.t.tape.trans hB.tape)
 ·exact hD.output.trans (k.t.output.trans hB.output)
 ·rw [setRow_size]; omega
 ·rw [setRow_other w4 w.heap.size i x (by omega), hD.block i (by omega), k.t.block i (by omega) n, hB.block i hi]
end
def FrL (w w' : World) (a b : Value) (x : List UInt8) (y : List (Int × Int × Int)) (g bd br bm bs : Nat) (F O : Nat -> Prop) (v : VS) : Prop := ∃ lo, M.Row w' lo a x /\ M.TRow w' lo b y /\ VL w w' lo g bd br bm bs F O v
def OutV (r : WK) (B : Int) (a b : Value) : Value := .agg #[.int .i64 r.v.st, .int .i64 r.v.fa, .int .i64 r.steps, .int .i64 r.spent, .int .i64 (B - r.spent), a, b]
theorem frame_lo (x : UInt8) (B : Int) (hB0 : 4 <= B) (hB1 : B <= 16384) (g bd br bm bs c : Nat) (F O : Nat -> Prop) (v : VS) (w : World) (hk : calls v.R = v.o.length) (h : MV w g bd br bm bs c F O v) :
  Calls Tryz.prog 7 #[.pointer (some ⟨g, 0, none⟩), .int .u8 (x.toNat : Int), .int .i64 B] w fun e w' => ∃ p1 c1 p2 c2, e = .returned (.tuple #[OutV (frame v (x.toNat : Int) B) B (.slice p1 (frame v (x.toNat : Int) B).v.m.scr.length c1) (.slice p2 (frame v (x.toNat : Int) B).v.m.tones.length c2), .int .i64 0]) /\ FrL w w' (.slice p1 (frame v (x.toNat : Int) B).v.m.scr.length c1) (.slice p2 (frame v (x.toNat : Int) B).v.m.tones.length c2) (frame v (x.toNat : Int) B).v.m.scr (frame v (x.toNat : Int) B).v.m.tones g bd br bm bs F O (frame v (x.toNat : Int) B).v := by
 have hz := heap_alloc_new w (.cells #[.int .i64 0, .int .i64 0, .int .i64 0, .int .i64 0, .int .i64 0, .slice none 0 0, .slice none 0 0] 28)
 have hb := P.bel_alloc w (.cells #[.int .i64 0, .int .i64 0, .int .i64 0, .int .i64 0, .int .i64 0, .slice none 0 0, .slice none 0 0] 28)
 have hM := h.below hb
 have hlt := h.lt
 generalize hW : w.alloc (.cells #[.int .i64 0, .int .i64 0, .int .i64 0, .int .i64 0, .int .i64 0, .slice none 0 0, .slice none 0 0] 28) = W at *
 have c4 := hM.c4
 have k0 := M.begin_any bm x W hM.ps.m
 have b1 : decide (B < 4) = false := decide_eq_false (by omega)
 have b2 : decide (16384 < B) = false := decide_eq_false (by omega)
 obtain ⟨r, hr⟩ : ∃ r, r = frame v (x.toNat : Int) B := ⟨_, rfl⟩
 rw [<- hr]
 have HR := hid hr
 have H0 := hid h
 have HM := hid hM
 have HB := hid hb
 have HZ := hid hz
 have hs : w.heap.size <= W.heap.size := hb.size
 have hs' : w.heap.size < W.heap.size := S.lt_of hz
 clear h hb hM hz hr
 go_enter Tryz.func7, Tryz.ntmps7
 go_wp2_with fail
 refine k0.mono ?_
 rintro e w1 ⟨rfl, hd⟩
 have hV1 : VD W w1 g bd br bm bs F O { v with m := M.bg v.m (x.toNat : Int) } := HM.out.goes (HM.out.ps.mem hd) ⟨HM.out.wf.d, HM.out.wf.r, HM.out.wf.c, HM.out.wf.o, HM.out.wf.l⟩
 obtain ⟨bs1, d1, F1, hM1, hF1, hbs1⟩ := hV1.s
 have kw := work_any { v with m := M.bg v.m (x.toNat : Int) } B hB0 hB1 (by simp [M.bg]) hk g bd br bm bs1 d1 F1 O w1 hM1
 have er : wk B.toNat B { v with m := M.bg v.m (x.toNat : Int) } 0 0 = r := by rw [HR.out]; rfl
 rw [er] at kw
 have HV1 := hid (And.intro hV1 (And.intro hF1 hbs1))
 have ht := wk_tones B B.toNat { v with m := M.bg v.m (x.toNat : Int) } 0 0
 have hr := wk_r B B.toNat { v with m := M.bg v.m (x.toNat : Int) } 0 0 (by omega)
 rw [er] at ht hr
 have ht : r.v.m.tones.length <= 1000000 := by simp only [M.bg, List.length_nil] at ht; omega
 obtain ⟨u, n, s⟩ := r
 simp only at kw ht hr
 have ws : IntKind.i64.wrap (B - s) = B - s := S.i64_id _ (by omega) (by omega)
 have ws' : wrap64 (B - s) = B - s := by simp [wrap64]; omega
 clear k0 hd hV1 c4 er hr hM1 hF1 hbs1
 go_wp2_with fail
 refine kw.mono ?_
 rintro e w2 ⟨rfl, hV2⟩
 have hV2 : VD W w2 g bd br bm bs F O u := VD.step HV1.out.1.t HV1.out.2.1 HV1.out.2.2 hV2
 have hz2 := (hV2.other H0.out hs w.heap.size (Nat.le_refl _) (S.lt_of HZ.out)).trans HZ.out
 have HZ2 := hid hz2
 have s2 : w.heap.size < w2.drew.heap.size := Nat.lt_of_lt_of_le hs' hV2.t.size
 obtain ⟨bs2, d2, F2, hM2, hF2, hbs2⟩ := hV2.s
 have HV2 := hid hV2
 have hM2 : MV w2.drew g bd br bm bs2 d2 F2 O u := hM2.below ⟨rfl, rfl, rfl, Nat.le_refl _, fun _ _ => rfl⟩
 have s0 := hM2.c3s
 have k1 := M.screen_any bm w2.drew hM2.ps.m
 have HM2 := hid hM2
 clear kw hV2 hz2 hM2 HV1 hF2 hbs2
 go_wp2_with fail
 refine wp_region_held_drew (S := (fun w' => w'.cell? ⟨g, 0, none⟩ = some (.int .i64 u.st) /\ w'.cell? ⟨g, 1, none⟩ = some (.int .i64 u.fa) /\ w'.cell? ⟨g, 4, none⟩ = some (.pointer (some ⟨bm, 0, none⟩)))) (by kernel_rfl) s0 (fun hHeld => ?_)
 refine D.xH 0 (v := ?_) rfl (by kernel_rfl) (fun c a w h => h) (by rfl) ?_ hHeld ?_
 rotate_left
 ·(intro w hSw; (try dsimp only at hSw); go_simp; try with_reducible rfl)
 simp only [Act.put, List.setIfInBounds_toArray, List.set_cons_zero, List.set_cons_succ]
 refine D.xH 1 (v := ?_) rfl (by kernel_rfl) (fun c a w h => h) (by rfl) ?_ hHeld ?_
 rotate_left
 ·(intro w hSw; (try dsimp only at hSw); go_simp; try with_reducible rfl)
 simp only [Act.put, List.setIfInBounds_toArray, List.set_cons_zero, List.set_cons_succ]
 refine D.xH 2 (v := ?_) rfl (by kernel_rfl) (fun c a w h => h) (by rfl) ?_ hHeld ?_
 rotate_left
 ·(intro w hSw; (try dsimp only at hSw); go_simp; try with_reducible rfl)
 simp only [Act.put, List.setIfInBounds_toArray, List.set_cons_zero, List.set_cons_succ]
 refine D.xH 3 (v := ?_) rfl (by kernel_rfl) (fun c a w h => h) (by rfl) ?_ hHeld ?_
 rotate_left
 ·(intro w hSw; (try dsimp only at hSw); go_simp; try with_reducible rfl)
 simp only [Act.put, List.setIfInBounds_toArray, List.set_cons_zero, List.set_cons_succ]
 refine D.xH 4 (v := ?_) rfl (by kernel_rfl) (fun c a w h => h) (by rfl) ?_ hHeld ?_
 rotate_left
 ·(intro w hSw; (try dsimp only at hSw); go_simp; try with_reducible rfl)
 simp only [Act.put, List.setIfInBounds_toArray, List.set_cons_zero, List.set_cons_succ]
 refine D.xH 5 (v := ?_) rfl (by kernel_rfl) (fun c a w h => h) (by rfl) ?_ hHeld ?_
 rotate_left
 ·(intro w hSw; (try dsimp only at hSw); go_simp; try with_reducible rfl)
 simp only [Act.put, List.setIfInBounds_toArray, List.set_cons_zero, List.set_cons_succ]
 refine D.xH 6 (v := ?_) rfl (by kernel_rfl) (fun c a w h => h) (by rfl) ?_ hHeld ?_
 rotate_left
 ·(intro w hSw; (try dsimp only at hSw); go_simp; try with_reducible rfl)
 simp only [Act.put, List.setIfInBounds_toArray, List.set_cons_zero, List.set_cons_succ]
 refine D.xH 7 (v := ?_) rfl (by kernel_rfl) (fun c a w h => h) (by rfl) ?_ hHeld ?_
 rotate_left
 ·(intro w hSw; (try dsimp only at hSw); go_simp; try with_reducible rfl)
 simp only [Act.put, List.setIfInBounds_toArray, List.set_cons_zero, List.set_cons_succ]
 refine D.xH 8 (v := ?_) rfl (by kernel_rfl) (fun c a w h => h) (by rfl) ?_ hHeld ?_
 rotate_left
 ·(intro w hSw; (try dsimp only at hSw); go_simp; try with_reducible rfl)
 simp only [Act.put, List.setIfInBounds_toArray, List.set_cons_zero, List.set_cons_succ]
 refine D.xH 9 (v := ?_) rfl (by kernel_rfl) (fun c a w h => h) (by rfl) ?_ hHeld ?_
 rotate_left
 ·(intro w hSw; (try dsimp only at hSw); go_simp; try with_reducible rfl)
 simp only [Act.put, List.setIfInBounds_toArray, List.set_cons_zero, List.set_cons_succ]
 refine D.xH 10 (v := ?_) rfl (by kernel_rfl) (fun c a w h => h) (by rfl) ?_ hHeld ?_
 rotate_left
 ·(intro w hSw; (try dsimp only at hSw); go_simp; try with_reducible rfl)
 simp only [Act.put, List.setIfInBounds_toArray, List.set_cons_zero, List.set_cons_succ]
 refine D.xH 11 (v := ?_) rfl (by kernel_rfl) (fun c a w h => h) (by rfl) ?_ hHeld ?_
 rotate_left
 ·(intro w hSw; (try dsimp only at hSw); go_simp; try with_reducible rfl)
 simp only [Act.put, List.setIfInBounds_toArray, List.set_cons_zero, List.set_cons_succ]
 refine D.xH 12 (v := ?_) rfl (by kernel_rfl) (fun c a w h => h) (by rfl) ?_ hHeld ?_
 rotate_left
 ·(intro w hSw; (try dsimp only at hSw); go_simp; try with_reducible rfl)
 simp only [Act.put, List.setIfInBounds_toArray, List.set_cons_zero, List.set_cons_succ]
 refine D.xH 13 (v := ?_) rfl (by kernel_rfl) (fun c a w h => h) (by rfl) ?_ hHeld ?_
 rotate_left
 ·(intro w hSw; (try dsimp only at hSw); go_simp; try with_reducible rfl)
 simp only [Act.put, List.setIfInBounds_toArray, List.set_cons_zero, List.set_cons_succ]
 refine D.xH 14 (v := ?_) rfl (by kernel_rfl) (fun c a w h => h) (by rfl) ?_ hHeld ?_
 rotate_left
 ·(intro w hSw; (try dsimp only at hSw); go_simp; try with_reducible rfl)
 simp only [Act.put, List.setIfInBounds_toArray, List.set_cons_zero, List.set_cons_succ]
 refine D.xH 15 (v := ?_) rfl (by kernel_rfl) (fun c a w h => h) (by rfl) ?_ hHeld ?_
 rotate_left
 ·(intro w hSw; (try dsimp only at hSw); go_simp; try with_reducible rfl)
 simp only [Act.put, List.setIfInBounds_toArray, List.set_cons_zero, List.set_cons_succ]
 refine D.xH 16 (v := ?_) rfl (by kernel_rfl) (fun c a w h => h) (by rfl) ?_ hHeld ?_
 rotate_left
 ·(intro w hSw; (try dsimp only at hSw); go_simp; try with_reducible rfl)
 simp only [Act.put, List.setIfInBounds_toArray, List.set_cons_zero, List.set_cons_succ]
 refine D.xH 18 (v := ?_) rfl (by kernel_rfl) (fun c a w h => h) (by rfl) ?_ hHeld ?_
 rotate_left
 ·(intro w hSw; (try dsimp only at hSw); go_simp; try with_reducible rfl)
 simp only [Act.put, List.setIfInBounds_toArray, List.set_cons_zero, List.set_cons_succ]
 refine D.xH 19 (v := ?_) rfl (by kernel_rfl) (fun c a w h => h) (by rfl) ?_ hHeld ?_
 rotate_left
 ·(intro w hSw; (try dsimp only at hSw); go_simp; try with_reducible rfl)
 simp only [Act.put, List.setIfInBounds_toArray, List.set_cons_zero, List.set_cons_succ]
 refine D.xH 20 (v := ?_) rfl (by kernel_rfl) (fun c a w h => h) (by rfl) ?_ hHeld ?_
 rotate_left
 ·(intro w hSw; (try dsimp only at hSw); go_simp; try with_reducible rfl)
 simp only [Act.put, List.setIfInBounds_toArray, List.set_cons_zero, List.set_cons_succ]
 refine D.xH 21 (v := ?_) rfl (by kernel_rfl) (fun c a w h => h) (by rfl) ?_ hHeld ?_
 rotate_left
 ·(intro w hSw; (try dsimp only at hSw); go_simp; try with_reducible rfl)
 simp only [Act.put, List.setIfInBounds_toArray, List.set_cons_zero, List.set_cons_succ]
 refine wpAnyH_ready (rs := [17]) (by kernel_rfl) (by simp) ?_
 refine AllReadyH.cons rfl (fun K hK => ?_) AllReadyH.nil
 go_simp
 refine k1.mono ?_
 rintro e w3 ⟨u1, rfl, r1, d1⟩
 obtain ⟨p1, c1, rfl⟩ := own_form r1
 have hM3 := HM2.out.below d1
 have s3 := hM3.c3s
 have k2 := M.tones_any bm w3 hM3.ps.m ht
 have HD3 := hid (show Below w2.drew.heap.size w2.drew w3 from d1)
 have HR1 := hid (show M.Row w3 w2.drew.heap.size (.slice p1 u.m.scr.length c1) u.m.scr from r1)
 have HM3 := hid hM3
 clear k1 r1 d1 hM3 s0
 refine hK.out _ _ s3 (fun hHeld => ?_)
 clear hK K
 try simp only [Act.put, List.setIfInBounds_toArray, List.set_cons_zero, List.set_cons_succ]
 refine wpAnyH_ready (rs := [22]) (by kernel_rfl) (by simp) ?_
 refine AllReadyH.cons rfl (fun K hK => ?_) AllReadyH.nil
 go_simp
 refine k2.mono ?_
 rintro e w4 ⟨u2, rfl, r2, d2⟩
 obtain ⟨p2, c2, rfl⟩ := own_form r2
 have hM4 := HM3.out.below d2
 have s4 := hM4.c3s
 have HD4 := hid (show Below w2.drew.heap.size w2.drew w4 from trB HD3.out d2 HD3.out.size)
 have HR2 := hid (show M.TRow w4 w3.heap.size (.slice p2 u.m.tones.length c2) u.m.tones from r2)
 have HR1' := hid (show M.Row w4 w2.drew.heap.size (.slice p1 u.m.scr.length c1) u.m.scr from HR1.out.below d2)
 have hz4 : w4.heap[w.heap.size]? = some (.cells z7 28 (0, 0)) := (HD4.out.block _ s2).trans HZ2.out
 have s5 : (fun w' => w'.cell? ⟨g, 0, none⟩ = some (.int .i64 u.st) /\ w'.cell? ⟨g, 1, none⟩ = some (.int .i64 u.fa) /\ w'.cell? ⟨g, 4, none⟩ = some (.pointer (some ⟨bm, 0, none⟩))) (w4.setRow w.heap.size #[.int .i64 u.st, .int .i64 u.fa, .int .i64 n, .int .i64 s, .int .i64 (B - s), .slice p1 u.m.scr.length c1, .slice p2 u.m.tones.length c2]) := hM4.row3 w.heap.size (Nat.ne_of_lt hlt) _
 have HM4 := hid hM4
 clear k2 r2 d2 s3 HR1 HM3 hM4
 refine hK.out _ _ s4 (fun hHeld => ?_)
 clear hK K
 try simp only [Act.put, List.setIfInBounds_toArray, List.set_cons_zero, List.set_cons_succ]
 refine wpAnyH_ready (rs := [23]) (by kernel_rfl) (by simp) ?_
 refine AllReadyH.cons rfl (fun K hK => ?_) AllReadyH.nil
 go_simp
 refine hK.out _ _ s4 (fun hHeld => ?_)
 clear hK K
 refine wpAnyH_ready (rs := [24]) (by kernel_rfl) (by simp) ?_
 refine AllReadyH.cons rfl (fun K hK => ?_) AllReadyH.nil
 refine step_store_row rfl 28 (.tmp 6) (.tmp 55) rfl w.heap.size #[.int .i64 u.st, .int .i64 u.fa, .int .i64 n, .int .i64 s, .int .i64 (B - s), .slice p1 u.m.scr.length c1, .slice p2 u.m.tones.length c2] (by simp [Act.eval]) (by simp [Act.eval]) 28 z7 hz4 (by exact sizeO) (by rfl) (by simp [Value.oneCell']) ?_
 refine hK.out _ _ s5 (fun hHeld => ?_)
 clear hK K
 refine wpAnyH_ready (rs := [25]) (by kernel_rfl) (by simp) ?_
 refine AllReadyH.cons rfl (fun K hK => ?_) AllReadyH.nil
 go_simp
 refine hK.out _ _ s5 (fun hHeld => ?_)
 clear hK K
 refine wpAnyH_done (by kernel_rfl) ?_ _
 have hfin := setRow_heap w4 w.heap.size _ #[.int .i64 u.st, .int .i64 u.fa, .int .i64 n, .int .i64 s, .int .i64 (B - s), .slice p1 u.m.scr.length c1, .slice p2 u.m.tones.length c2] _ _ hz4
 clear hHeld s4 s5
 try simp only [Act.put, List.setIfInBounds_toArray, List.set_cons_zero, List.set_cons_succ]
 go_wp2
 have hsz : w3.heap.size ≥ w2.drew.heap.size := HD3.out.size
 have hVF := MV.around H0.out HB.out hs' HV2.out ⟨HD4.out.os, HD4.out.tape, HD4.out.output, HD4.out.size, HD4.out.block⟩ #[.int .i64 u.st, .int .i64 u.fa, .int .i64 n, .int .i64 s, .int .i64 (B - s), .slice p1 u.m.scr.length c1, .slice p2 u.m.tones.length c2]
 refine bodyPost_ret (v := .tuple #[OutV ⟨u, n, s⟩ B (.slice p1 u.m.scr.length c1) (.slice p2 u.m.tones.length c2), .int .i64 0]) ?_ rfl ⟨p1, c1, p2, c2, rfl, w2.drew.heap.size, ?_, ?_, hVF⟩
 ·rw [results_cell_tmp rfl]
  simp [asAddr, run_loadVar_row _ w.heap.size _ 28 _ _ _ hfin Tryz.underlying28 rfl sizeO, OutV]
 ·exact S.own_kept HR1'.out fun k e _ => setRow_other w4 w.heap.size k _ (by have := own_lt HR1'.out k e; omega)
 ·exact S.own_mono (S.own_kept HR2.out fun k e _ => setRow_other w4 w.heap.size k _ (by have := own_lt HR2.out k e; omega)) hsz
set_option maxHeartbeats 4000000
set_option maxRecDepth 100000
theorem results_cell_tmp2 {fn : Func} {p u t : Tmp} {ty : TypeId} (h : fn.results = #[.cell p ty, .tmp u, .tmp t]) (tmps : Array Value) (P : Program) (w : World) :
  (results fn tmps).run P w =
   ((asAddr (tmps.getD p undef)).run P w).andThen fun a w₁ => ((loadVar ty a).run P w₁).andThen fun v w₂ => .ok (.tuple #[v, tmps.getD u undef, tmps.getD t undef]) w₂ := by
 simp only [results, h]
 simp [Sem.run_bind, Result.andThen]
theorem bel_row {W W' : World} {B : Nat} (h : Below B W W') (g : Nat) (hg : B <= g) (c : Array Value) : Below B W (W'.setRow g c) := P.Below.setRow h g hg c
theorem mkRow (w : World) (z c : Array Value) (t : TypeId) : (w.alloc (.cells z t)).heap[w.heap.size]? = some (.cells z t (0, 0)) /\ ((w.alloc (.cells z t)).setRow w.heap.size c).heap[w.heap.size]? = some (.cells c t (0, 0)) /\ Below w.heap.size w ((w.alloc (.cells z t)).setRow w.heap.size c) :=
 ⟨heap_alloc_new w _, setRow_heap _ _ _ _ _ _ (heap_alloc_new w _), P.Below.setRow (P.bel_alloc w _) w.heap.size (Nat.le_refl _) c⟩
theorem dnB' {n : Nat} {w w1 : World} (h : Below n w w1) : Below n w w1.drew := ⟨h.os, h.tape, h.output, h.size, h.block⟩
theorem sizeP : (Tryz.prog.info? 33).map (·.size) = some 2 := by kernel_rfl
def zP : Array Value := #[.int .i64 0, .int .i64 0]
theorem frame_bud (g : Nat) (x B : Int) (hB : B < 4 \/ 16384 < B) (w : World) : Calls Tryz.prog 7 #[.pointer (some ⟨g, 0, none⟩), .int .u8 x, .int .i64 B] w fun e w' => e = .returned (.tuple #[.agg #[.int .i64 0, .int .i64 0, .int .i64 0, .int .i64 0, .int .i64 0, .slice none 0 0, .slice none 0 0], .int .i64 190]) /\ Below w.heap.size w w' := by
 obtain ⟨hz, hfin, hb⟩ := mkRow w #[.int .i64 0, .int .i64 0, .int .i64 0, .int .i64 0, .int .i64 0, .slice none 0 0, .slice none 0 0] #[.int .i64 0, .int .i64 0, .int .i64 0, .int .i64 0, .int .i64 0, .slice none 0 0, .slice none 0 0] 28
 by_cases q : B < 4
 ·have b1 : decide (B < 4) = true := decide_eq_true q
  go_enter Tryz.func7, Tryz.ntmps7
  go_wp2_with (refine wpList_store_row rfl 28 _ _ rfl w.heap.size _ rfl rfl 28 z7 hz (by exact sizeO) (by rfl) (by simp [Value.oneCell']) ?_)
  refine bodyPost_ret (v := .tuple #[.agg #[.int .i64 0, .int .i64 0, .int .i64 0, .int .i64 0, .int .i64 0, .slice none 0 0, .slice none 0 0], .int .i64 190]) ?_ rfl ⟨rfl, hb⟩
  rw [results_cell_tmp rfl]
  simp [asAddr, run_loadVar_row _ w.heap.size _ 28 _ _ _ hfin Tryz.underlying28 rfl sizeO]
 ·have b1 : decide (B < 4) = false := decide_eq_false q
  have b2 : decide (16384 < B) = true := decide_eq_true (by omega)
  go_enter Tryz.func7, Tryz.ntmps7
  go_wp2_with (refine wpList_store_row rfl 28 _ _ rfl w.heap.size _ rfl rfl 28 z7 hz (by exact sizeO) (by rfl) (by simp [Value.oneCell']) ?_)
  refine bodyPost_ret (v := .tuple #[.agg #[.int .i64 0, .int .i64 0, .int .i64 0, .int .i64 0, .int .i64 0, .slice none 0 0, .slice none 0 0], .int .i64 190]) ?_ rfl ⟨rfl, hb⟩
  rw [results_cell_tmp rfl]
  simp [asAddr, run_loadVar_row _ w.heap.size _ 28 _ _ _ hfin Tryz.underlying28 rfl sizeO]
theorem next_fin {w w1 : World} (hz : w1.heap[w.heap.size]? = some (.cells zP 33 (0, 0))) (hb : Below w.heap.size w w1) {a : Act} {p q : Int} {x3 x4 : Value}
  (hp : a.tmps.getD 2 undef = .pointer (some ⟨w.heap.size, 0, none⟩)) (h3 : a.tmps.getD 3 undef = x3) (h4 : a.tmps.getD 4 undef = x4) (hd : a.defers = []) :
  bodyPost Tryz.prog Tryz.f8 (fun e w' => e = .returned (.tuple #[.agg #[.int .i64 p, .int .i64 q], x3, x4]) /\ Below w.heap.size w w') .ret a (w1.setRow w.heap.size #[.int .i64 p, .int .i64 q]) := by
 have hfin := setRow_heap w1 w.heap.size _ #[.int .i64 p, .int .i64 q] _ _ hz
 have hbf := P.Below.setRow hb w.heap.size (Nat.le_refl _) #[.int .i64 p, .int .i64 q]
 refine bodyPost_ret (v := .tuple #[.agg #[.int .i64 p, .int .i64 q], x3, x4]) ?_ hd ⟨rfl, hbf⟩
 rw [results_cell_tmp2 rfl, hp, h3, h4]
 simp [asAddr, run_loadVar_row _ w.heap.size _ 33 _ _ _ hfin Tryz.underlying33 rfl sizeP]
section
variable {g bd br bm bs c : Nat} {F O : Nat -> Prop} {v : VS}
theorem next_any (w : World) (h : MV w g bd br bm bs c F O v) (q1 : v.st = 1) (hk : calls v.R = v.o.length) : Calls Tryz.prog 8 #[.pointer (some ⟨g, 0, none⟩)] w fun e w' => e = .returned (.tuple #[.agg #[.int .i64 (look v).p.1, .int .i64 (look v).p.2], .int .i64 (cost (look v).op), .bool true]) /\ Below w.heap.size w w' := by
 obtain ⟨W, hW⟩ : ∃ W, w.alloc (.cells #[.int .i64 0, .int .i64 0] 33) = W := ⟨_, rfl⟩
 have hz : W.heap[w.heap.size]? = some (.cells zP 33 (0, 0)) := by rw [<- hW]; exact heap_alloc_new w _
 have hb : Below w.heap.size w W := by rw [<- hW]; exact P.bel_alloc w _
 have hM := h.below hb
 have c0 := hM.c0
 have e1 : (v.st != 1) = false := by simpa using q1
 have kh := here_any hM (calls_le v hk h.wf)
 have hlo := lk_ok v.c.fr v.c.e h.wf.c
 have hlook : lk v.c.fr v.c.e = look v := rfl
 rw [hlook] at hlo
 generalize look v = i at *
 obtain ⟨o1, o2, o3⟩ := okI_parts hlo.1.1
 obtain ⟨m, hm⟩ : ∃ m : Nat, i.op = (m : Int) := ⟨i.op.toNat, by omega⟩
 have hco : cost i.op = P.rc m := by unfold cost; rw [hm]; rfl
 have kc := fun wq W' => cost_any m (by omega) (by omega) i.v wq i.p W'
 rw [<- hm] at kc
 rw [hco]
 generalize P.rc m = co at *
 have hzl := S.lt_of hz
 have HM := hid hM
 have HB := hid hb
 have HZ := hid hz
 have HL := hid hlook
 clear h hM hlo hm o1 o2 o3 hco q1 hz hlook
 go_enter Tryz.func8, Tryz.ntmps8
 go_upto_region 1 with fail
 go_wp2_with fail
 refine kh.mono ?_
 rintro e w1 ⟨x, rfl, hP, hb1⟩
 have HP := hid (And.intro hP hb1)
 clear kh hP hb1 c0 hb
 go_wp2_with (refine wpList_look (W := W) (O := O) rfl rfl (by refine ⟨?_, ?_, ?_, ?_, ?_, ?_, ?_, ?_, ?_⟩ <;> intros <;> kernel_rfl) v.c.fr v.c.e i HL.out x (by rfl) HP.out.1 HM.out.ol HP.out.2 (fun wq w2 hwq hb2 => ?_); have HQ := hid (And.intro hwq (trB HP.out.2 hb2 HP.out.2.size)); clear hwq hb2)
 obtain ⟨W4, hW4, hb4, u4, hs4⟩ := boxn w2 i.op i.v wq i.p
 rw [hW4]
 have hB4 := trB HQ.out.2 hb4 HQ.out.2.size
 have hz4 := (hB4.block _ hzl).trans HZ.out
 have hne : w.heap.size ≠ w2.heap.size := by have := HQ.out.2.size; omega
 have HB4 := hid (And.intro (trB HB.out hB4 HB.out.size) (And.intro hz4 hne))
 have u5 : W4.drew.heap[w2.heap.size]? = _ := u4
 have kc4 := kc wq
 clear kc hW4 hb4 hB4 hz4 hs4
 refine wp_region_held_drew (S := fun w' => w'.heap[w2.heap.size]? = some (.cells [.int .i64 i.op, .int .u16 i.v, .pointer wq, .int .i64 i.p.1, .int .i64 i.p.2].toArray 84 (0, 0))) (by kernel_rfl) u5 (fun hHeld => ?_)
 refine D.xH 0 (v := ?_) rfl (by kernel_rfl) (fun c a w h => h) (by rfl) ?_ hHeld ?_
 rotate_left
 ·(intro w hSw; go_simp; try with_reducible rfl)
 simp only [Act.put, List.setIfInBounds_toArray, List.set_cons_zero, List.set_cons_succ]
 refine wpAnyH_take (i := 1) (v := .agg #[.int .i64 i.p.1, .int .i64 i.p.2]) rfl (by kernel_rfl) (by kernel_rfl) (by kernel_rfl) (fun c a w h => h) (Or.inl ⟨by rfl, ?_⟩) hHeld ?_
 ·(intro w hSw; have x3 := S.cell_of w _ 3 _ _ _ hSw rfl; have x4 := S.cell_of w _ 4 _ _ _ hSw rfl; clear hSw; go_simp; try with_reducible rfl)
 simp only [Act.put, List.setIfInBounds_toArray, List.set_cons_zero, List.set_cons_succ]
 refine wpAnyH_take (i := 2) (v := .agg #[.int .i64 i.op, .int .u16 i.v, .pointer wq, .int .i64 i.p.1, .int .i64 i.p.2]) rfl (by kernel_rfl) (by kernel_rfl) (by kernel_rfl) (fun c a w h => h) (Or.inl ⟨by rfl, ?_⟩) hHeld ?_
 ·(intro w hSw; have x0 := S.cell_of w _ 0 _ _ _ hSw rfl; have x1 := S.cell_of w _ 1 _ _ _ hSw rfl; have x2 := S.cell_of w _ 2 _ _ _ hSw rfl; have x3 := S.cell_of w _ 3 _ _ _ hSw rfl; have x4 := S.cell_of w _ 4 _ _ _ hSw rfl; clear hSw; go_simp; try with_reducible rfl)
 simp only [Act.put, List.setIfInBounds_toArray, List.set_cons_zero, List.set_cons_succ]
 refine wpAnyH_ready (rs := [3]) (by kernel_rfl) (by simp) ?_
 refine AllReadyH.cons rfl (fun K hK => ?_) AllReadyH.nil
 go_simp
 refine (kc4 _).mono ?_
 rintro e w5 ⟨rfl, hb5⟩
 have hs4 : w2.heap.size < W4.drew.heap.size := S.lt_of u5
 have hs4' : w.heap.size < W4.drew.heap.size := Nat.lt_of_lt_of_le hzl (Nat.le_trans HQ.out.2.size (Nat.le_of_lt hs4))
 have u6 := (hb5.block _ hs4).trans u5
 have hz5 : w5.heap[w.heap.size]? = some (.cells zP 33 (0, 0)) := (hb5.block _ hs4').trans HB4.out.2.1
 have hB5 : Below w.heap.size w w5 := trB (dnB' HB4.out.1) hb5 (Nat.le_of_lt hs4')
 have s7 : (w5.setRow w.heap.size #[.int .i64 i.p.1, .int .i64 i.p.2]).heap[w2.heap.size]? = some (.cells [.int .i64 i.op, .int .u16 i.v, .pointer wq, .int .i64 i.p.1, .int .i64 i.p.2].toArray 84 (0, 0)) := (setRow_other w5 w.heap.size w2.heap.size _ (Ne.symm HB4.out.2.2)).trans u6
 refine hK.out _ _ u6 (fun hHeld => ?_)
 clear hK K kc4
 try simp only [Act.put, List.setIfInBounds_toArray, List.set_cons_zero, List.set_cons_succ]
 refine wpAnyH_ready (rs := [4]) (by kernel_rfl) (by simp) ?_
 refine AllReadyH.cons rfl (fun K hK => ?_) AllReadyH.nil
 refine step_store_row rfl 33 (.tmp 2) (.tmp 20) rfl w.heap.size #[.int .i64 i.p.1, .int .i64 i.p.2] (by simp [Act.eval]) (by simp [Act.eval]) 33 zP hz5 (by exact sizeP) (by rfl) (by simp [Value.oneCell']) ?_
 refine hK.out _ _ s7 (fun hHeld => ?_)
 clear hK K
 try simp only [Act.put, List.setIfInBounds_toArray, List.set_cons_zero, List.set_cons_succ]
 refine wpAnyH_ready (rs := [5]) (by kernel_rfl) (by simp) ?_
 refine AllReadyH.cons rfl (fun K hK => ?_) AllReadyH.nil
 go_simp
 refine hK.out _ _ s7 (fun hHeld => ?_)
 clear hK K
 refine wpAnyH_ready (rs := [6]) (by kernel_rfl) (by simp) ?_
 refine AllReadyH.cons rfl (fun K hK => ?_) AllReadyH.nil
 go_simp
 refine hK.out _ _ s7 (fun hHeld => ?_)
 clear hK K
 refine wpAnyH_done (by kernel_rfl) ?_ _
 clear hHeld s7
 try simp only [Act.put, List.setIfInBounds_toArray, List.set_cons_zero, List.set_cons_succ]
 go_wp2
 exact next_fin hz5 hB5 rfl rfl rfl rfl
theorem data_any (w : World) (h : MV w g bd br bm bs c F O v) : Calls Tryz.prog 10 #[.pointer (some ⟨g, 0, none⟩)] w fun e w' => ∃ u, e = .returned u /\ S.RowU w' w.heap.size u v.D /\ Below w.heap.size w w' := by
 have c2 := h.c2
 have k := S.dcells bd v.D w h.ps.d
 clear h
 go_enter Tryz.func10, Tryz.ntmps10
 go_wp2_with fail
 refine k.mono ?_
 rintro e w1 ⟨u, rfl, hu⟩
 clear k
 go_wp2
 go_ret
 exact ⟨u, rfl, hu⟩
end
end Go.Proofs.YtoemoiehjdmheaaGreat.Z
