import Derived.Test.YtoemoiehjdmheaaGreatZDoo
import Derived.Test.YtoemoiehjdmheaaGreatZNds
import Derived.Test.YtoemoiehjdmheaaGreatRMath
import Derived.Test.YtoemoiehjdmheaaGreatYOf
import Derived.Test.YtoemoiehjdmheaaGreatYRg
import Derived.Test.YtoemoiehjdmheaaGreatMOps
namespace Go.Proofs.YtoemoiehjdmheaaGreat.Z
open Go.RowKit
open Go.Proofs
open Go.Proofs.YtoemoiehjdmheaaGreat.Y (Nd Df Ps Pl hid rgN rgN_is rgD)
open Go.Proofs.YtoemoiehjdmheaaGreat.R (ck cks own1 uses usesF fits strc fe inn dfE dsE bkE isMain chk ck_is cks_nil cks_cons fieldsF isNm Bk)
set_option linter.unusedVariables false
set_option linter.unusedSimpArgs false
theorem cks_mem {ns : List ByteArray} {i : Nat × Bool} : ∀ {l : List Nd}, cks ns l i = 0 -> ∀ n ∈ l, ck ns n i = 0
 | [], _, n, hn => by cases hn
 | a :: r, h, n, hn => by
  rw [cks_cons] at h
  by_cases e : ck ns a i = 0
  ·rw [if_pos e] at h
   rcases List.mem_cons.1 hn with rfl | hn
   ·exact e
   ·exact cks_mem h n hn
  ·rw [if_neg e] at h; exact absurd h e
theorem ck_parts {ns : List ByteArray} {n : Nd} {i : Nat × Bool} (h : ck ns n i = 0) : own1 ns n i = 0 /\ cks ns n.th (inn n i) = 0 /\ cks ns n.el (inn n i) = 0 := by
 rw [ck_is] at h
 by_cases h1 : own1 ns n i = 0
 ·rw [if_pos h1] at h
  by_cases h2 : cks ns n.th (inn n i) = 0
  ·rw [if_pos h2] at h; exact ⟨h1, h2, h⟩
  ·rw [if_neg h2] at h; exact absurd h h2
 ·rw [if_neg h1] at h; exact absurd h h1
theorem own_parts {ns : List ByteArray} {n : Nd} {i : Nat × Bool} (h : own1 ns n i = 0) : uses n = true /\ fits ns n = true := by
 unfold own1 at h
 by_cases h1 : uses n = false
 ·rw [if_pos h1] at h; cases h
 ·rw [if_neg h1] at h
  by_cases h2 : fits ns n = false
  ·rw [if_pos h2] at h; cases h
  ·exact ⟨by simpa using h1, by simpa using h2⟩
theorem uses_k {n : Nd} (h : uses n = true) : 1 <= n.k /\ n.k <= 9 := by
 unfold uses usesF at h
 simp only [Bool.and_eq_true, decide_eq_true_eq] at h
 exact ⟨h.1, h.2.1⟩
theorem lkn_up (s x : ByteArray) (v : Nm) : ∀ E : Ev, lkn (upn E s v) x = if s = x then some v else lkn E x
 | [] => rfl
 | (a, b) :: r => by
  rw [upn]
  by_cases h : a = s
  ·subst h
   rw [if_pos rfl, lkn, lkn]
   by_cases q : a = x
   ·rw [if_pos q, if_pos q]
   ·rw [if_neg q, if_neg q, if_neg q]
  ·rw [if_neg h, lkn, lkn, lkn_up s x v r]
   by_cases q : a = x
   ·rw [if_pos q, if_pos q, if_neg (fun e => h (q.trans e.symm))]
   ·rw [if_neg q, if_neg q]
def okNm (i : Nm) : Prop := okI i.op i.w = true /\ C.C i.v /\ ∀ l ∈ i.w, okL l
def okE (E : Ev) : Prop := ∀ s i, lkn E s = some i -> okNm i
def known (E : Ev) (ns : List ByteArray) : Prop := ∀ s ∈ ns, ∃ i, lkn E s = some i
theorem c0 : C.C 0 := ⟨by omega, by omega⟩
theorem ck_ok (E : Ev) (ns : List ByteArray) (hE : okE E) (hk : known E ns) : ∀ (n : Nd) (i : Nat × Bool), ck ns n i = 0 -> rgN n = true -> okM (rs E n) := by
 intro n
 refine Y.Nd.ind (P := fun n => ∀ (i : Nat × Bool), ck ns n i = 0 -> rgN n = true -> okM (rs E n)) (fun n ht he i hc hr => ?_) n
 obtain ⟨h1, h2, h3⟩ := ck_parts hc
 obtain ⟨u1, u2⟩ := own_parts h1
 obtain ⟨k1, k9⟩ := uses_k u1
 obtain ⟨r1, r2, r3⟩ := (rgN_is n).1 hr
 have hi : okNm (ins E n.k n.op n.v n.nm) \/ sng n.k = false /\ (ins E n.k n.op n.v n.nm).w = [] := by
  unfold ins
  by_cases q2 : n.k = 2
  ·rw [if_pos q2]; exact .inl ⟨rfl, r1, fun l hl => by cases hl⟩
  rw [if_neg q2]
  by_cases q3 : n.k = 3
  ·rw [if_pos q3]
   unfold fits at u2
   rw [if_neg (by omega), if_pos q3] at u2
   obtain ⟨s, hs, e⟩ := List.any_eq_true.1 u2
   have e : s = n.nm := by simpa using e
   subst e
   obtain ⟨j, hj⟩ := hk _ hs
   rw [hj]
   exact .inl (hE _ _ hj)
  rw [if_neg q3]
  by_cases q9 : n.k = 9
  ·rw [if_pos q9]; exact .inl ⟨rfl, c0, fun l hl => by cases hl⟩
  rw [if_neg q9]
  by_cases q1 : n.k = 1
  ·unfold fits at u2
   rw [if_pos q1] at u2
   simp only [Bool.and_eq_true, decide_eq_true_eq] at u2
   refine .inl ⟨?_, c0, fun l hl => by cases hl⟩
   unfold okI
   have e1 : (n.op != 1) = true := by simp; omega
   have e2 : decide (1 <= n.op) = true := decide_eq_true (by omega)
   have e3 : decide (n.op <= 63) = true := decide_eq_true u2.2
   simp only [e1, e2, e3, Bool.true_or, Bool.and_self]
  ·refine .inr ⟨?_, rfl⟩
   have : n.k = 4 \/ n.k = 5 \/ n.k = 6 \/ n.k = 7 \/ n.k = 8 := by omega
   unfold sng
   rcases this with e | e | e | e | e <;> rw [e] <;> rfl
 refine okM.shut ?_
 rw [rs_is]
 refine ⟨fun hs => ?_, fun x hx => ?_, fun x hx => ?_, fun l hl x hx => ?_⟩
 ·rcases hi with hi | ⟨hi, _⟩
  ·exact ⟨hi.1, hi.2.1⟩
  ·rw [hi] at hs; cases hs
 ·obtain ⟨m, hm, rfl⟩ := List.mem_map.1 hx
  exact ht m hm _ (cks_mem h2 m hm) (r2 m hm)
 ·obtain ⟨m, hm, rfl⟩ := List.mem_map.1 hx
  exact he m hm _ (cks_mem h3 m hm) (r3 m hm)
 ·rcases hi with hi | ⟨_, hi⟩
  ·exact hi.2.2 l hl x hx
  ·simp only [hi] at hl; cases hl
theorem cks_ok {E : Ev} {ns : List ByteArray} (hE : okE E) (hk : known E ns) {l : List Nd} {i : Nat × Bool} (h : cks ns l i = 0) (hr : ∀ n ∈ l, rgN n = true) : okL (l.map (rs E)) := fun x hx => by
 obtain ⟨m, hm, rfl⟩ := List.mem_map.1 hx
 exact ck_ok E ns hE hk m i (cks_mem h m hm) (hr m hm)
theorem dsE_at : ∀ (ds : List Df) (ns : List ByteArray), dsE ns ds = 0 -> ∀ (k : Nat) (d : Df), ds[k]? = some d -> dfE (ns ++ (ds.take k).map (·.nm)) d = 0
 | [], ns, h, k, d, hd => by simp at hd
 | a :: r, ns, h, k, d, hd => by
  rw [dsE] at h
  by_cases e : dfE ns a = 0
  ·rw [if_pos e] at h
   cases k with
   | zero => simp at hd; subst hd; simpa using e
   | succ k =>
    have := dsE_at r (ns ++ [a.nm]) h k d (by simpa using hd)
    simpa using this
  ·rw [if_neg e] at h; exact absurd h e
theorem dfE_parts {ns : List ByteArray} {d : Df} (h : dfE ns d = 0) : fieldsF d.k d.v d.body.isEmpty = true /\ (¬ d.nm ∈ ns) /\ cks ns d.body (0, false) = 0 := by
 unfold dfE at h
 by_cases h1 : fieldsF d.k d.v d.body.isEmpty = false
 ·rw [if_pos h1] at h; cases h
 rw [if_neg h1] at h
 by_cases h2 : isNm d.nm = false
 ·rw [if_pos h2] at h; cases h
 rw [if_neg h2] at h
 by_cases h3 : ns.any (fun s => decide (s = d.nm)) = true
 ·rw [if_pos h3] at h; cases h
 rw [if_neg h3] at h
 by_cases h4 : d.k = 3 /\ 16384 < d.v
 ·rw [if_pos h4] at h; cases h
 rw [if_neg h4] at h
 exact ⟨by simpa using h1, fun hm => h3 (List.any_eq_true.2 ⟨_, hm, by simp⟩), h⟩
theorem okE_up {E : Ev} (h : okE E) (s : ByteArray) (v : Nm) (hv : okNm v) : okE (upn E s v) := fun x i hi => by
 rw [lkn_up] at hi
 split at hi
 ·cases hi; exact hv
 ·exact h x i hi
theorem known_up {E : Ev} {ns : List ByteArray} (h : known E ns) (s : ByteArray) (v : Nm) : known (upn E s v) (ns ++ [s]) := fun x hx => by
 rw [lkn_up]
 by_cases e : s = x
 ·rw [if_pos e]; exact ⟨_, rfl⟩
 ·rw [if_neg e]
  rcases List.mem_append.1 hx with hx | hx
  ·exact h x hx
  ·simp at hx; exact absurd hx.symm e
def nm1 (E : Ev) (d : Df) (q : Pl) : Nm := if d.k = 1 then ⟨1, 0, [d.body.map (rs E)], d.p⟩ else if d.k = 2 then ⟨2, d.v, [], z2⟩ else ⟨2, q.ram, [], z2⟩
theorem nme_is {E : Ev} {d : Df} {q : Pl} (h : fieldsF d.k d.v d.body.isEmpty = true) : nme E d q = upn E d.nm (nm1 E d q) := by
 unfold nme nm1
 unfold fieldsF at h
 by_cases h1 : d.k = 1
 ·rw [if_pos h1, if_pos h1]
 rw [if_neg h1, if_neg h1]
 by_cases h2 : d.k = 2
 ·rw [if_pos h2, if_pos h2]
 rw [if_neg h2, if_neg h2]
 by_cases h3 : d.k = 3
 ·rw [if_pos h3]
 ·rw [if_neg h1, if_neg (by rintro (e | e); exact h2 e; exact h3 e)] at h
  cases h
theorem evk_ok (ds : List Df) (qs : List Pl) (hl : qs.length = ds.length) (h : dsE [] ds = 0) (hr : ∀ d ∈ ds, rgD d) (hq : ∀ q ∈ qs, C.C q.ram) : ∀ k, k <= ds.length -> okE (evk ds qs k) /\ known (evk ds qs k) ((ds.take k).map (·.nm))
 | 0, _ => ⟨fun s i hi => by simp [evk, lkn] at hi, fun s hs => by simp at hs⟩
 | k + 1, hk => by
  obtain ⟨i1, i2⟩ := evk_ok ds qs hl h hr hq k (by omega)
  have hd : ds[k]? = some ds[k] := List.getElem?_eq_getElem (by omega)
  have hqk : qs[k]? = some qs[k] := List.getElem?_eq_getElem (by omega)
  have hdm : ds[k] ∈ ds := List.getElem_mem _
  have hqm : qs[k] ∈ qs := List.getElem_mem _
  generalize hde : ds[k] = d at *
  generalize hqe : qs[k] = q at *
  have p := dfE_parts (dsE_at ds [] h k d hd)
  rw [List.nil_append] at p
  rw [evk_succ ds qs k d q hd hqk, nme_is p.1, List.take_add_one, hd, List.map_append]
  refine ⟨okE_up i1 _ _ ?_, known_up i2 _ _⟩
  unfold nm1
  split
  ·refine ⟨rfl, c0, fun l hl => ?_⟩
   simp at hl; subst hl
   exact cks_ok i1 i2 p.2.2 (hr d hdm).2
  ·split
   ·exact ⟨rfl, (hr d hdm).1, fun l hl => by cases hl⟩
   ·exact ⟨rfl, hq q hqm, fun l hl => by cases hl⟩
def mn : ByteArray := ⟨#[109, 97, 105, 110]⟩
theorem evk_main (ds : List Df) (qs : List Pl) (hl : qs.length = ds.length) (h : dsE [] ds = 0) (j : Nat) (d : Df) (hj : ds[j]? = some d) (hm : isMain d = true) : ∀ k, j < k -> k <= ds.length -> lkn (evk ds qs k) mn = some ⟨1, 0, [d.body.map (rs (evk ds qs j))], d.p⟩
 | 0, h0, _ => absurd h0 (by omega)
 | k + 1, h0, hk => by
  unfold isMain at hm
  simp only [Bool.and_eq_true, beq_iff_eq, decide_eq_true_eq] at hm
  have hd : ds[k]? = some ds[k] := List.getElem?_eq_getElem (by omega)
  have hqk : qs[k]? = some qs[k] := List.getElem?_eq_getElem (by omega)
  have p := dfE_parts (dsE_at ds [] h k _ hd)
  rw [List.nil_append] at p
  rw [evk_succ ds qs k _ _ hd hqk, nme_is p.1, lkn_up]
  by_cases e : j = k
  ·subst e
   rw [hd] at hj
   cases hj
   rw [if_pos (show ds[j].nm = mn from hm.2)]
   unfold nm1
   rw [if_pos hm.1]
  ·rw [if_neg, evk_main ds qs hl h j d hj (by unfold isMain; simp [hm.1, hm.2]) k (by omega) (by omega)]
   intro e2
   refine p.2.1 (List.mem_map.2 ⟨d, List.mem_of_getElem? (i := j) ?_, ?_⟩)
   ·rw [List.getElem?_take, if_pos (by omega)]; exact hj
   ·rw [hm.2, e2]; rfl
theorem chk_parts {ds : List Df} {bs : List Bk} (h : chk ds bs = 0) : dsE [] ds = 0 /\ bkE (-1) bs = 0 /\ ds.any isMain = true := by
 unfold chk at h
 by_cases h1 : dsE [] ds = 0
 ·rw [if_pos h1] at h
  by_cases h2 : bkE (-1) bs = 0
  ·rw [if_pos h2] at h
   by_cases h3 : ds.any isMain = true
   ·exact ⟨h1, h2, h3⟩
   ·rw [if_neg h3] at h; cases h
  ·rw [if_neg h2] at h; exact absurd h h2
 ·rw [if_neg h1] at h; exact absurd h h1
theorem main_ok (ds : List Df) (bs : List Bk) (qs : List Pl) (hl : qs.length = ds.length) (h : chk ds bs = 0) (hr : ∀ d ∈ ds, rgD d) (hq : ∀ q ∈ qs, C.C q.ram) : ∃ l p, lkn (evk ds qs ds.length) mn = some ⟨1, 0, [l], p⟩ /\ okL l := by
 obtain ⟨h1, h2, h3⟩ := chk_parts h
 obtain ⟨d, hd, hm⟩ := List.any_eq_true.1 h3
 obtain ⟨j, hj, e⟩ := List.getElem_of_mem hd
 have hj' : ds[j]? = some d := by rw [List.getElem?_eq_getElem hj, e]
 have hmn := evk_main ds qs hl h1 j d hj' hm ds.length hj (Nat.le_refl _)
 exact ⟨_, _, hmn, (evk_ok ds qs hl h1 hr hq ds.length (Nat.le_refl _)).1 _ _ hmn |>.2.2 _ (by simp)⟩
theorem bk_may : ∀ (bs : List Bk) (last : Int), bkE last bs = 0 -> M.mayB last bs = true
 | [], _, _ => rfl
 | b :: r, last, h => by
  rw [bkE] at h
  by_cases h1 : b.1 < 0 \/ 16 <= b.1 \/ 16384 < b.2.length
  ·rw [if_pos h1] at h; cases h
  ·rw [if_neg h1] at h
   by_cases h2 : b.1 <= last
   ·rw [if_pos h2] at h; cases h
   ·rw [if_neg h2] at h
    rw [M.mayB, if_neg (by omega)]
    exact bk_may r b.1 h
theorem pls_rg (ds : List Df) : ∀ k, ∀ q ∈ Y.pls ds k, C.C q.ram
 | 0, q, hq => by cases hq
 | k + 1, q, hq => by
  rw [Y.pls] at hq
  rcases List.mem_append.1 hq with hq | hq
  ·exact pls_rg ds k q hq
  ·split at hq
   ·rename_i d e
    simp at hq
    subst hq
    unfold Y.bt
    simp only
    split
    ·exact ⟨Int.emod_nonneg _ (by decide), Int.emod_lt_of_pos _ (by decide)⟩
    ·exact c0
   ·cases hq
def lyE : List Df -> Nat -> Int
 | ds, 0 => 0
 | ds, k + 1 => if lyE ds k = 0 then Y.ps (Y.rms ds (k + 1)) else lyE ds k
theorem lyE_0 (ds : List Df) : ∀ k, (∀ j, j < k -> Y.ps (Y.rms ds (j + 1)) = 0) -> lyE ds k = 0
 | 0, _ => rfl
 | k + 1, h => by rw [lyE, lyE_0 ds k fun j hj => h j (by omega), if_pos rfl]; exact h k (by omega)
theorem lyE_at (ds : List Df) (k : Nat) (h : ∀ j, j < k -> Y.ps (Y.rms ds (j + 1)) = 0) (hn : Y.ps (Y.rms ds (k + 1)) ≠ 0) : ∀ n, k < n -> lyE ds n = Y.ps (Y.rms ds (k + 1))
 | 0, h0 => absurd h0 (by omega)
 | n + 1, h0 => by
  rw [lyE]
  by_cases e : k = n
  ·subst e; rw [lyE_0 ds k h, if_pos rfl]
  ·rw [lyE_at ds k h hn n (by omega), if_neg hn]
def newE (ds : List Df) (bs : List Bk) : Int := if chk ds bs = 0 then lyE ds ds.length else chk ds bs
def born (ds : List Df) (bs : List Bk) : VS :=
 ⟨1, 0, [], [], { M.m0 with banks := M.nbk bs }, [], ⟨bgn ((((lkn (evk ds (Y.pls ds ds.length) ds.length) mn).getD ⟨0, 0, [], z2⟩).w).headD []) 0 [], ((lkn (evk ds (Y.pls ds ds.length) ds.length) mn).getD ⟨0, 0, [], z2⟩).wp⟩⟩
end Go.Proofs.YtoemoiehjdmheaaGreat.Z
