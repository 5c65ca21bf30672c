import Derived.Test.YtlilefhmohkfkaaGreatDoorEMark
import Derived.Test.YtlilefhmohkfkaaGreatDoorEPlaces
namespace Go.Proofs.YtlilefhmohkfkaaGreatDoor.E
open Go.Proofs.YtlilefhmohkfkaaGreatDoor.Y (Nd Df Ps)
open R (En lk numb chk Bk dsE dfE cks ck own1 inn uses usesF fits ck_is cks_cons isNm isRes resW resL prN)
set_option linter.unusedVariables false
set_option linter.unusedSimpArgs false
set_option maxHeartbeats 1000000
def digF : Nat -> Nat -> List UInt8
 | 0, n => [UInt8.ofNat (48 + n % 10)]
 | f + 1, n => if n < 10 then [UInt8.ofNat (48 + n)] else digF f (n / 10) ++ [UInt8.ofNat (48 + n % 10)]
def dgs (n : Nat) : List UInt8 := digF 7 n
def vl (l : List UInt8) : Nat := l.foldl (fun a c => a * 10 + (c.toNat - 48)) 0
theorem b_nat (n : Nat) (h : n < 10) : (UInt8.ofNat (48 + n)).toNat = 48 + n := by
 rw [UInt8.toNat_ofNat']
 exact Nat.mod_eq_of_lt (by omega)
theorem vl_snoc (l : List UInt8) (c : UInt8) : vl (l ++ [c]) = vl l * 10 + (c.toNat - 48) := by unfold vl; rw [List.foldl_append]; rfl
theorem vl_one (n : Nat) (h : n < 10) : vl [UInt8.ofNat (48 + n)] = n := by
 show 0 * 10 + ((UInt8.ofNat (48 + n)).toNat - 48) = n
 rw [b_nat n h]; omega
theorem vl_dig : ∀ (f n : Nat), n < 10 ^ (f + 1) -> vl (digF f n) = n
 | 0, n, h => by
  rw [digF, Nat.mod_eq_of_lt (by simpa using h)]
  exact vl_one n (by simpa using h)
 | f + 1, n, h => by
  rw [digF]
  split
  ·rename_i h10; exact vl_one n h10
  ·rw [vl_snoc, vl_dig f (n / 10) (by rw [Nat.pow_succ] at h; omega), b_nat _ (by omega)]
   omega
theorem dig_range : ∀ (f n : Nat), ∀ c ∈ digF f n, 48 <= c.toNat /\ c.toNat <= 57
 | 0, n, c, h => by
  rw [digF, List.mem_singleton] at h
  rw [h, b_nat _ (by omega)]; omega
 | f + 1, n, c, h => by
  rw [digF] at h
  split at h
  ·rename_i h10
   rw [List.mem_singleton] at h
   rw [h, b_nat _ h10]; omega
  ·rcases List.mem_append.1 h with h | h
   ·exact dig_range f _ c h
   ·rw [List.mem_singleton] at h
    rw [h, b_nat _ (by omega)]; omega
theorem dig_len : ∀ (f n : Nat), (digF f n).length <= f + 1
 | 0, n => by rw [digF]; simp
 | f + 1, n => by
  rw [digF]
  split
  ·simp
  ·rw [List.length_append]; have := dig_len f (n / 10); simp; omega
def zzL (n : Nat) : List UInt8 := 122 :: 122 :: dgs n
def zzN (n : Nat) : ByteArray := ⟨(zzL n).toArray⟩
def nZv : ByteArray := ⟨#[122, 118]⟩
theorem ba_inj {a b : List UInt8} (h : (⟨a.toArray⟩ : ByteArray) = ⟨b.toArray⟩) : a = b := by
 have := congrArg (fun x : ByteArray => x.data.toList) h
 simpa using this
theorem zz_inj {m n : Nat} (hm : m < 100000000) (hn : n < 100000000) (h : zzN m = zzN n) : m = n := by
 have h1 := ba_inj h
 unfold zzL at h1
 simp only [List.cons.injEq, true_and] at h1
 have h2 := congrArg vl h1
 unfold dgs at h2
 rw [vl_dig 7 m (by simpa using hm), vl_dig 7 n (by simpa using hn)] at h2
 exact h2
theorem zz_main (n : Nat) : zzN n ≠ nMain := by
 intro h
 have h1 := ba_inj (b := [109, 97, 105, 110]) h
 unfold zzL at h1
 simp at h1
theorem zz_zv (n : Nat) : zzN n ≠ nZv := by
 intro h
 have h1 := ba_inj (b := [122, 118]) h
 unfold zzL at h1
 simp at h1
theorem main_zv : nMain ≠ nZv := by
 intro h
 have h1 := ba_inj (a := [109, 97, 105, 110]) (b := [122, 118]) h
 simp at h1
theorem res_z (t : List UInt8) : resW ⟨(122 :: t).toArray⟩ = false := by
 unfold resW
 rw [List.any_eq_false]
 intro l hl
 have h2 : ∀ l ∈ resL, l.head? ≠ some 122 := by decide
 rw [ByteArray.toList_eq]
 intro e
 have e2 : (122 :: t) = l := by simpa using e
 exact h2 l hl (by rw [<- e2]; rfl)
theorem pr_nm : ((List.range 64).all fun x => (P.nm x).toList.head? != some 122) = true := by kernel_rfl
theorem pr_z (t : List UInt8) : prN ⟨(122 :: t).toArray⟩ = false := by
 unfold prN
 rw [Bool.and_eq_false_iff]
 refine .inr ?_
 rw [List.any_eq_false]
 intro x hx
 have hx2 : x < 64 := by
  unfold P.allN at hx
  rw [List.mem_range'_1] at hx
  omega
 have h3 := List.all_eq_true.1 pr_nm x (List.mem_range.2 hx2)
 intro e
 have e2 : (P.nm x).toList = 122 :: t := by rw [ByteArray.toList_eq (⟨(122 :: t).toArray⟩ : ByteArray)] at e; simpa using e
 rw [e2] at h3
 simp at h3
theorem num_z (t : List UInt8) : T.numI (122 :: 122 :: t) = none := by
 unfold T.numI
 have hq : T.quo (122 :: 122 :: t) = false := by
  unfold T.quo
  split
  ·rename_i a c d e
   cases e
   rfl
  ·rfl
 rw [hq]
 simp only [Bool.false_eq_true, if_false]
 rw [if_neg (by decide), if_neg (by decide), if_neg (by decide)]
 unfold T.body
 rw [if_neg (by simp)]
 unfold T.val
 rw [List.foldl_cons]
 have : T.stepV 10 (some 0) (T.dig (122 : UInt8).toNat) = none := by decide
 rw [this, T.fold_none]
 rfl
theorem isNm_zz (n : Nat) : isNm (zzN n) = true := by
 unfold isNm isRes zzN zzL
 rw [res_z, pr_z]
 simp only [Bool.or_self, Bool.not_false, Bool.and_true]
 unfold T.nameB
 have hl : (dgs n).length <= 29 := by
  have := dig_len 7 n
  unfold dgs
  omega
 have hs : (122 :: 122 :: dgs n).all (fun c => T.seen c.toNat) = true := by
  rw [List.all_eq_true]
  intro c hc
  rcases List.mem_cons.1 hc with rfl | hc
  ·decide
  rcases List.mem_cons.1 hc with rfl | hc
  ·decide
  ·have := dig_range 7 n c hc
   unfold T.seen
   simp only [decide_eq_true_eq]
   omega
 rw [hs, num_z]
 simp [hl]
theorem isNm_zv : isNm nZv = true := by kernel_rfl
def ren (ds : List Df) (s : ByteArray) : ByteArray := if s = nMain then s else match lk (numb (ds.map (·.nm)) 0) s with | none => s | some i => zzN i.toNat
theorem ren_main (ds : List Df) : ren ds nMain = nMain := if_pos rfl
theorem ren_at (ds : List Df) (s : ByteArray) (hs : s ∈ ds.map (·.nm)) : (s = nMain /\ ren ds s = nMain) \/ (s ≠ nMain /\ ∃ i : Nat, lk (numb (ds.map (·.nm)) 0) s = some (i : Int) /\ i < ds.length /\ (ds.map (·.nm))[i]? = some s /\ ren ds s = zzN i) := by
 by_cases h : s = nMain
 ·exact .inl ⟨h, by rw [h]; exact ren_main ds⟩
 ·obtain ⟨n, h1, h2, h3⟩ := lk_mem s _ 0 hs
  rw [Nat.zero_add] at h1
  refine .inr ⟨h, n, h1, by simpa using h2, h3, ?_⟩
  unfold ren
  rw [if_neg h, h1]
  rfl
theorem ren_inj (ds : List Df) (hl : ds.length <= 1048576) {s t : ByteArray} (hs : s ∈ ds.map (·.nm)) (ht : t ∈ ds.map (·.nm)) (h : ren ds s = ren ds t) : s = t := by
 rcases ren_at ds s hs with ⟨h1, h2⟩ | ⟨h1, i, a1, a2, a3, a4⟩
 ·rcases ren_at ds t ht with ⟨g1, g2⟩ | ⟨g1, j, b1, b2, b3, b4⟩
  ·rw [h1, g1]
  ·rw [h2, b4] at h; exact (zz_main j h.symm).elim
 ·rcases ren_at ds t ht with ⟨g1, g2⟩ | ⟨g1, j, b1, b2, b3, b4⟩
  ·rw [g2, a4] at h; exact (zz_main i h).elim
  ·rw [a4, b4] at h
   have e := zz_inj (by omega) (by omega) h
   subst e
   rw [a3] at b3
   exact Option.some.inj b3
theorem ren_zv (ds : List Df) {s : ByteArray} (hs : s ∈ ds.map (·.nm)) : ren ds s ≠ nZv := by
 rcases ren_at ds s hs with ⟨h1, h2⟩ | ⟨h1, i, a1, a2, a3, a4⟩
 ·rw [h2]; exact main_zv
 ·rw [a4]; exact zz_zv i
theorem ren_nm (ds : List Df) {s : ByteArray} (hs : s ∈ ds.map (·.nm)) (h : isNm s = true) : isNm (ren ds s) = true := by
 rcases ren_at ds s hs with ⟨h1, h2⟩ | ⟨h1, i, a1, a2, a3, a4⟩
 ·rw [h2, <- h1]; exact h
 ·rw [a4]; exact isNm_zz i
theorem lk_map (f : ByteArray -> ByteArray) (x : ByteArray) : ∀ (ns : List ByteArray) (i : Nat), (∀ s ∈ ns, f s = f x -> s = x) -> lk (numb (ns.map f) i) (f x) = lk (numb ns i) x
 | [], i, h => rfl
 | s :: r, i, h => by
  rw [List.map_cons, numb, numb, lk, lk]
  by_cases hs : s = x
  ·rw [if_pos hs, if_pos (by rw [hs])]
  ·rw [if_neg hs, if_neg (fun e => hs (h s (by simp) e)), lk_map f x r (i + 1) (fun t ht => h t (by simp [ht]))]
open R (En lk numb chk Bk dsE dfE cks ck own1 inn uses usesF fits ck_is cks_cons isNm strc)
set_option linter.unusedVariables false
set_option linter.unusedSimpArgs false
set_option maxHeartbeats 1000000
section
variable (xv : Int -> Int) (ds : List Df)
def oth : Nd -> Nd
 | ⟨k, op, v, nm, th, el, has, p⟩ => ⟨k, op, if k = 2 then xv v else v, if k = 3 then ren ds nm else nm, th.map oth, el.map oth, has, (p.2, p.1)⟩
def ots (l : List Nd) : List Nd := l.map (oth xv ds)
theorem oth_is (n : Nd) : oth xv ds n = ⟨n.k, n.op, if n.k = 2 then xv n.v else n.v, if n.k = 3 then ren ds n.nm else n.nm, ots xv ds n.th, ots xv ds n.el, n.has, (n.p.2, n.p.1)⟩ := by cases n; rw [oth]; rfl
def ot (d : Df) : Df := ⟨d.k, ren ds d.nm, d.v, ots xv ds d.body, d.p⟩
def zvD : Df := ⟨3, nZv, 2, [], (0, 0)⟩
def othP : List Df := zvD :: ds.map (ot xv ds)
theorem isEmpty_map {α β : Type} (f : α -> β) (l : List α) : (l.map f).isEmpty = l.isEmpty := by cases l <;> rfl
theorem uses_oth (n : Nd) (h : uses n = true) : uses (oth xv ds n) = true := by
 rw [oth_is]
 unfold uses usesF ots at *
 simp only [isEmpty_map, Bool.and_eq_true, Bool.or_eq_true] at h ⊢
 obtain ⟨h1, h2, h3, h4, h5, h6, h7, h8⟩ := h
 refine ⟨h1, h2, h3, ?_, ?_, h6, h7, h8⟩
 ·by_cases e : n.k = 2
  ·exact .inl (by simp [e])
  ·rw [if_neg e]; exact h4
 ·by_cases e : n.k = 3
  ·exact .inl (by simp [e])
  ·rw [if_neg e]; exact h5
theorem fits_oth (names names' : List ByteArray) (hn : ∀ s ∈ names, ren ds s ∈ names') (n : Nd) (h : fits names n = true) : fits names' (oth xv ds n) = true := by
 rw [oth_is]
 unfold fits at *
 by_cases e1 : n.k = 1
 ·rw [if_pos e1] at h; simp only [e1, if_true]; exact h
 ·rw [if_neg e1] at h
  simp only [if_neg e1]
  by_cases e3 : n.k = 3
  ·rw [if_pos e3] at h
   simp only [e3, if_true]
   obtain ⟨s, hs, e⟩ := List.any_eq_true.1 h
   have e' : s = n.nm := by simpa using e
   exact List.any_eq_true.2 ⟨ren ds n.nm, hn _ (e' ▸ hs), by simp⟩
  ·simp only [if_neg e3]
theorem ck_oth (names names' : List ByteArray) (hn : ∀ s ∈ names, ren ds s ∈ names') (n : Nd) : ∀ i, ck names n i = 0 -> ck names' (oth xv ds n) i = 0 :=
 Nd.ind (P := fun n => ∀ i, ck names n i = 0 -> ck names' (oth xv ds n) i = 0) (fun n h1 h2 i h => by
  have hk := h
  rw [ck_is] at h
  have h0 : own1 names n i = 0 := by
   by_cases e : own1 names n i = 0
   ·exact e
   ·rw [if_neg e] at h; exact h
  obtain ⟨_, _, hf, ht, he⟩ := ckp hk
  have hu : uses n = true := by
   cases hu : uses n with
   | true => rfl
   | false => unfold own1 at h0; rw [hu] at h0; simp at h0
  have e1 : (oth xv ds n).k = n.k := by rw [oth_is]
  have e2 : (oth xv ds n).th = ots xv ds n.th := by rw [oth_is]
  have e3 : (oth xv ds n).el = ots xv ds n.el := by rw [oth_is]
  have g0 : own1 names' (oth xv ds n) i = 0 := by
   unfold own1 at h0 ⊢
   rw [uses_oth xv ds n hu, fits_oth xv ds names names' hn n hf, e1]
   rw [hu, hf] at h0
   exact h0
  have gi : inn (oth xv ds n) i = inn n i := by unfold inn; rw [e1]
  have gt : ∀ (l : List Nd) (j : Nat × Bool), (∀ m ∈ l, ∀ i, ck names m i = 0 -> ck names' (oth xv ds m) i = 0) -> cks names l j = 0 -> cks names' (ots xv ds l) j = 0 := by
   intro l j
   induction l with
   | nil => intro _ _; rfl
   | cons m r ih =>
    intro hm hc
    rw [cks_cons] at hc
    have c0 : ck names m j = 0 := by
     by_cases e : ck names m j = 0
     ·exact e
     ·rw [if_neg e] at hc; exact absurd hc e
    rw [if_pos c0] at hc
    show cks names' (oth xv ds m :: ots xv ds r) j = 0
    rw [cks_cons, if_pos (hm m (by simp) j c0)]
    exact ih (fun u hu => hm u (by simp [hu])) hc
  rw [ck_is, if_pos g0, e2, e3, gi, if_pos (gt n.th _ h1 ht)]
  exact gt n.el _ h2 he) n
theorem cks_oth (names names' : List ByteArray) (hn : ∀ s ∈ names, ren ds s ∈ names') : ∀ (l : List Nd) (i : Nat × Bool), cks names l i = 0 -> cks names' (ots xv ds l) i = 0
 | [], i, _ => rfl
 | m :: r, i, hc => by
  rw [cks_cons] at hc
  have c0 : ck names m i = 0 := by
   by_cases e : ck names m i = 0
   ·exact e
   ·rw [if_neg e] at hc; exact absurd hc e
  rw [if_pos c0] at hc
  show cks names' (oth xv ds m :: ots xv ds r) i = 0
  rw [cks_cons, if_pos (ck_oth xv ds names names' hn m i c0)]
  exact cks_oth names names' hn r i hc
theorem dfE_parts {names : List ByteArray} {d : Df} (h : dfE names d = 0) : R.fieldsF d.k d.v d.body.isEmpty = true /\ isNm d.nm = true /\ ¬ (d.k = 3 /\ 16384 < d.v) /\ cks names d.body (0, false) = 0 := by
 refine ⟨?_, ?_, ?_, dfE_body names d h⟩
 ·unfold dfE at h
  split at h
  ·cases h
  ·rename_i c; simpa using c
 ·unfold dfE at h
  split at h
  ·cases h
  ·split at h
   ·cases h
   ·rename_i c; simpa using c
 ·unfold dfE at h
  split at h
  ·cases h
  ·split at h
   ·cases h
   ·split at h
    ·cases h
    ·split at h
     ·cases h
     ·rename_i c; exact c
theorem dfE_of {names : List ByteArray} {d : Df} (h1 : R.fieldsF d.k d.v d.body.isEmpty = true) (h2 : isNm d.nm = true) (h3 : d.nm ∉ names) (h4 : ¬ (d.k = 3 /\ 16384 < d.v)) (h5 : cks names d.body (0, false) = 0) : dfE names d = 0 := by
 unfold dfE
 have h3' : ¬ (names.any (fun s => decide (s = d.nm)) = true) := by
  intro h
  obtain ⟨s, hs, e⟩ := List.any_eq_true.1 h
  have e' : s = d.nm := by simpa using e
  exact h3 (e' ▸ hs)
 rw [if_neg (by rw [h1]; decide), if_neg (by rw [h2]; decide), if_neg h3', if_neg h4]
 exact h5
theorem dsE_oth (hl : ds.length <= 1048576) (hN : (ds.map (·.nm)).Nodup) : ∀ (r pre : List Df), ds = pre ++ r -> dsE (pre.map (·.nm)) r = 0 -> dsE (nZv :: (pre.map (ot xv ds)).map (·.nm)) (r.map (ot xv ds)) = 0
 | [], pre, _, _ => rfl
 | d :: r, pre, hd, h => by
  rw [dsE] at h
  have h0 : dfE (pre.map (·.nm)) d = 0 := by
   by_cases e : dfE (pre.map (·.nm)) d = 0
   ·exact e
   ·rw [if_neg e] at h; exact absurd h e
  rw [if_pos h0] at h
  obtain ⟨q1, q2, q3, q4⟩ := dfE_parts h0
  have hdm : d.nm ∈ ds.map (·.nm) := List.mem_map.2 ⟨d, by rw [hd]; simp, rfl⟩
  have hpm : ∀ e ∈ pre, e.nm ∈ ds.map (·.nm) := fun e he => List.mem_map.2 ⟨e, by rw [hd]; simp [he], rfl⟩
  have g0 : dfE (nZv :: (pre.map (ot xv ds)).map (·.nm)) (ot xv ds d) = 0 := by
   refine dfE_of ?_ (ren_nm ds hdm q2) ?_ q3 (cks_oth xv ds _ _ ?_ _ _ q4)
   ·show R.fieldsF d.k d.v (ots xv ds d.body).isEmpty = true
    unfold ots
    rw [isEmpty_map]; exact q1
   ·intro hm
    rcases List.mem_cons.1 hm with hm | hm
    ·exact ren_zv ds hdm hm
    ·rw [List.map_map] at hm
     obtain ⟨e, he, hee⟩ := List.mem_map.1 hm
     have e1 : ren ds e.nm = ren ds d.nm := hee
     have e2 := ren_inj ds hl (hpm e he) hdm e1
     exact dfE_new _ d h0 (List.mem_map.2 ⟨e, he, e2⟩)
   ·intro s hs
    obtain ⟨e, he, rfl⟩ := List.mem_map.1 hs
    rw [List.map_map]
    exact List.mem_cons_of_mem _ (List.mem_map.2 ⟨e, he, rfl⟩)
  rw [List.map_cons, dsE, if_pos g0]
  have := dsE_oth hl hN r (pre ++ [d]) (by rw [hd]; simp) (by rw [List.map_append]; exact h)
  rw [List.map_append, List.map_append] at this
  exact this
theorem chk_oth (hl : ds.length <= 1048576) (bs : List Bk) (h : chk ds bs = 0) : chk (othP xv ds) [] = 0 := by
 have hds := chk_ds h
 have hN := nodup_of ds [] (by simp) hds
 have h1 : dfE [] zvD = 0 := dfE_of rfl isNm_zv (by simp) (by decide) rfl
 have h2 : dsE [] (othP xv ds) = 0 := by
  unfold othP
  rw [dsE, if_pos h1]
  exact dsE_oth xv ds hl (by simpa using hN) ds [] rfl hds
 unfold chk
 rw [if_pos h2, if_pos (show R.bkE (-1) [] = 0 from rfl), if_pos ?_]
 have hm : ds.any R.isMain = true := by
  unfold chk at h
  rw [if_pos hds] at h
  by_cases hb : R.bkE (-1) bs = 0
  ·rw [if_pos hb] at h
   cases e : ds.any R.isMain with
   | true => rfl
   | false => rw [e] at h; cases h
  ·rw [if_neg hb] at h; exact absurd h hb
 obtain ⟨d, hd, hi⟩ := List.any_eq_true.1 hm
 unfold R.isMain at hi
 simp only [Bool.and_eq_true, decide_eq_true_eq] at hi
 refine List.any_eq_true.2 ⟨ot xv ds d, ?_, ?_⟩
 ·unfold othP
  exact List.mem_cons_of_mem _ (List.mem_map.2 ⟨d, hd, rfl⟩)
 ·unfold R.isMain ot
  simp only [Bool.and_eq_true, decide_eq_true_eq]
  refine ⟨hi.1, ?_⟩
  have e : d.nm = nMain := hi.2
  rw [e]
  exact ren_main ds
end
open R (En lk numb chk Bk dsE dfE cks ck fits)
set_option linter.unusedVariables false
set_option linter.unusedSimpArgs false
set_option maxHeartbeats 1000000
def er {α : Type} : Except Er α -> Except Int α
 | .ok x => .ok x
 | .error e => .error e.1
def Sm (f g : X -> Re) : Prop := ∀ x, er (f x) = er (g x)
theorem er_cases {α : Type} {a b : Except Er α} (h : er a = er b) : (∃ x, a = .ok x /\ b = .ok x) \/ (∃ e e', a = .error e /\ b = .error e' /\ e.1 = e'.1) := by
 cases a with
 | ok x =>
  cases b with
  | ok y => simp only [er, Except.ok.injEq] at h; subst h; exact .inl ⟨x, rfl, rfl⟩
  | error e => simp only [er] at h; cases h
 | error e =>
  cases b with
  | ok y => simp only [er] at h; cases h
  | error e' => simp only [er, Except.error.injEq] at h; exact .inr ⟨e, e', rfl, rfl, h⟩
theorem grow_er (w : Wk) (i d r : Int) (p q : Ps) : er (grow w i d r p) = er (grow w i d r q) := by
 unfold grow
 split <;> rfl
theorem step_er (x : X) (a b : Int) (p q : Ps) : er (step x a b p) = er (step x a b q) := by
 unfold step
 rcases er_cases (grow_er x.1 (a - x.2.h) (x.2.h - a + b) 0 p q) with ⟨w, h1, h2⟩ | ⟨e, e', h1, h2, h3⟩
 ·rw [h1, h2]
 ·rw [h1, h2]; simp only [er, h3]
theorem put_er (x : X) (ks : List UInt8) (p q : Ps) : er (put x p ks) = er (put x q ks) := by
 unfold put
 rcases er_cases (grow_er x.1 0 0 ((x.2.own.length + ks.length : Nat) : Int) p q) with ⟨w, h1, h2⟩ | ⟨e, e', h1, h2, h3⟩
 ·rw [h1, h2]
 ·rw [h1, h2]; simp only [er, h3]
theorem prim_er (op : Int) (p q : Ps) : Sm (prim op p) (prim op q) := by
 intro x
 unfold prim
 split
 ·rfl
 ·rcases er_cases (step_er x (P.ri op.toNat) (P.ro op.toNat) p q) with ⟨y, h1, h2⟩ | ⟨e, e', h1, h2, h3⟩
  ·rw [h1, h2]
   simp only
   split
   ·exact put_er y [4] p q
   ·rfl
  ·rw [h1, h2]; simp only [er, h3]
structure TyR (f : ByteArray -> ByteArray) (t t' : Ty) : Prop where
 i : t'.i = t.i
 o : t'.o = t.o
 d : t'.d = t.d
 r : t'.r = t.r
 nv : t'.nv = t.nv
 e : t'.e = t.e
 nm : t'.nm = f t.nm
def OpR (f : ByteArray -> ByteArray) (a b : Option Ty) : Prop := (a = none /\ b = none) \/ ∃ t t', a = some t /\ b = some t' /\ TyR f t t'
theorem call_er {f : ByteArray -> ByteArray} {a b : Option Ty} (h : OpR f a b) (p q : Ps) : Sm (call a p) (call b q) := by
 intro x
 rcases h with ⟨rfl, rfl⟩ | ⟨t, t', rfl, rfl, h⟩
 ·exact step_er x 0 1 p q
 ·simp only [call]
  rw [h.e, h.i, h.o, h.d, h.r, h.nv]
  split
  ·rcases er_cases (grow_er x.1 (t.i - x.2.h) (x.2.h + t.d) ((x.2.own.length : Int) + 1 + t.r) p q) with ⟨w, h1, h2⟩ | ⟨e, e', h1, h2, h3⟩
   ·rw [h1, h2]
   ·rw [h1, h2]; simp only [er, h3]
  ·rfl
theorem leave_er (s : St) (p q : Ps) (w : Wk) : er (leave s p w) = er (leave s q w) := by
 unfold leave
 split
 ·split <;> rfl
 ·rfl
theorem back_er (a b : St) (p q : Ps) : er (back a b p) = er (back a b q) := by
 unfold back
 split <;> rfl
theorem run_er : ∀ (fs gs : List (X -> Re)), fs.length = gs.length -> (∀ (i : Nat) f g, fs[i]? = some f -> gs[i]? = some g -> Sm f g) -> Sm (run fs) (run gs)
 | [], [], _, _ => fun x => rfl
 | [], _ :: _, h, _ => by simp at h
 | _ :: _, [], h, _ => by simp at h
 | f :: fs, g :: gs, hl, h => fun x => by
  rw [run, run]
  by_cases hd : x.2.dead = true
  ·rw [if_pos hd, if_pos hd]
  ·rw [if_neg hd, if_neg hd]
   rcases er_cases (h 0 f g rfl rfl x) with ⟨y, h1, h2⟩ | ⟨e, e', h1, h2, h3⟩
   ·rw [h1, h2]
    exact run_er fs gs (by simpa using hl) (fun i f g hf hg => h (i + 1) f g (by simpa using hf) (by simpa using hg)) y
   ·rw [h1, h2]; simp only [er, h3]
theorem choice_er {th el th' el' : X -> Re} (h1 : Sm th th') (h2 : Sm el el') (p q : Ps) : Sm (choice th el p) (choice th' el' q) := by
 intro x
 unfold choice
 rcases er_cases (step_er x 1 0 p q) with ⟨y, a1, a2⟩ | ⟨e, e', a1, a2, a3⟩
 ·rw [a1, a2]
  simp only
  rcases er_cases (h1 y) with ⟨z, b1, b2⟩ | ⟨e, e', b1, b2, b3⟩
  ·rw [b1, b2]
   simp only
   rcases er_cases (h2 (z.1, y.2)) with ⟨u, c1, c2⟩ | ⟨e, e', c1, c2, c3⟩
   ·rw [c1, c2]
    simp only
    split
    ·rfl
    ·split <;> rfl
   ·rw [c1, c2]; simp only [er, c3]
  ·rw [b1, b2]; simp only [er, b3]
 ·rw [a1, a2]; simp only [er, a3]
theorem until_er {th th' : X -> Re} (h1 : Sm th th') (p q : Ps) : Sm (until_ th p) (until_ th' q) := by
 intro x
 unfold until_
 rcases er_cases (h1 x) with ⟨y, a1, a2⟩ | ⟨e, e', a1, a2, a3⟩
 ·rw [a1, a2]
  simp only
  split
  ·rfl
  ·rcases er_cases (step_er y 1 0 p q) with ⟨z, b1, b2⟩ | ⟨e, e', b1, b2, b3⟩
   ·rw [b1, b2]
    simp only
    rcases er_cases (back_er z.2 x.2 p q) with ⟨u, c1, c2⟩ | ⟨e, e', c1, c2, c3⟩
    ·rw [c1, c2]
    ·rw [c1, c2]; simp only [er, c3]
   ·rw [b1, b2]; simp only [er, b3]
 ·rw [a1, a2]; simp only [er, a3]
theorem while_er {th el th' el' : X -> Re} (h1 : Sm th th') (h2 : Sm el el') (p q : Ps) : Sm (while_ th el p) (while_ th' el' q) := by
 intro x
 unfold while_
 rcases er_cases (h1 x) with ⟨y, a1, a2⟩ | ⟨e, e', a1, a2, a3⟩
 ·rw [a1, a2]
  simp only
  split
  ·rfl
  ·rcases er_cases (step_er y 1 0 p q) with ⟨z, b1, b2⟩ | ⟨e, e', b1, b2, b3⟩
   ·rw [b1, b2]
    simp only
    rcases er_cases (h2 z) with ⟨v, d1, d2⟩ | ⟨e, e', d1, d2, d3⟩
    ·rw [d1, d2]
     simp only
     rcases er_cases (back_er v.2 x.2 p q) with ⟨u, c1, c2⟩ | ⟨e, e', c1, c2, c3⟩
     ·rw [c1, c2]
     ·rw [c1, c2]; simp only [er, c3]
    ·rw [d1, d2]; simp only [er, d3]
   ·rw [b1, b2]; simp only [er, b3]
 ·rw [a1, a2]; simp only [er, a3]
theorem again_er {th th' : X -> Re} (h1 : Sm th th') (p q : Ps) : Sm (again th p) (again th' q) := by
 intro x
 unfold again
 rcases er_cases (h1 x) with ⟨y, a1, a2⟩ | ⟨e, e', a1, a2, a3⟩
 ·rw [a1, a2]
  simp only
  rcases er_cases (back_er y.2 x.2 p q) with ⟨u, c1, c2⟩ | ⟨e, e', c1, c2, c3⟩
  ·rw [c1, c2]
  ·rw [c1, c2]; simp only [er, c3]
 ·rw [a1, a2]; simp only [er, a3]
theorem do_er {th th' : X -> Re} (h1 : Sm th th') (p q : Ps) : Sm (do_ th p) (do_ th' q) := by
 intro x
 unfold do_
 rcases er_cases (step_er x 2 0 p q) with ⟨y, a1, a2⟩ | ⟨e, e', a1, a2, a3⟩
 ·rw [a1, a2]
  simp only
  rcases er_cases (put_er y [2, 3] p q) with ⟨z, b1, b2⟩ | ⟨e, e', b1, b2, b3⟩
  ·rw [b1, b2]
   simp only
   rcases er_cases (h1 z) with ⟨v, d1, d2⟩ | ⟨e, e', d1, d2, d3⟩
   ·rw [d1, d2]
    simp only
    rcases er_cases (back_er v.2 z.2 p q) with ⟨u, c1, c2⟩ | ⟨e, e', c1, c2, c3⟩
    ·rw [c1, c2]
    ·rw [c1, c2]; simp only [er, c3]
   ·rw [d1, d2]; simp only [er, d3]
  ·rw [b1, b2]; simp only [er, b3]
 ·rw [a1, a2]; simp only [er, a3]
section
variable (xv : Int -> Int) (ds : List Df)
theorem node_er {f : ByteArray -> ByteArray} {kn kn' : ByteArray -> Option Ty} {names : List ByteArray} (hk : ∀ s ∈ names, OpR f (kn s) (kn' (ren ds s))) (n : Nd) : ∀ i, ck names n i = 0 -> Sm (node kn n) (node kn' (oth xv ds n)) :=
 Nd.ind (P := fun n => ∀ i, ck names n i = 0 -> Sm (node kn n) (node kn' (oth xv ds n))) (fun n h1 h2 i hc => by
  obtain ⟨_, _, hf, ht, he⟩ := ckp hc
  have bt : ∀ (l : List Nd) (j : Nat × Bool), (∀ m ∈ l, ∀ i, ck names m i = 0 -> Sm (node kn m) (node kn' (oth xv ds m))) -> cks names l j = 0 -> Sm (body kn l) (body kn' (ots xv ds l)) := by
   intro l j hm hcl
   refine run_er _ _ (by simp [ots]) fun i f g hf hg => ?_
   unfold ots at hg
   rw [List.map_map, List.getElem?_map] at hg
   rw [List.getElem?_map] at hf
   cases e : l[i]? with
   | none => rw [e] at hf; cases hf
   | some m =>
    rw [e] at hf hg
    cases hf
    cases hg
    exact hm m (List.mem_of_getElem? e) j (cks_mem hcl m (List.mem_of_getElem? e))
  have b1 := bt n.th _ h1 ht
  have b2 := bt n.el _ h2 he
  rw [node_is, node_is]
  have e1 : (oth xv ds n).k = n.k := by rw [oth_is]
  have e2 : (oth xv ds n).th = ots xv ds n.th := by rw [oth_is]
  have e3 : (oth xv ds n).el = ots xv ds n.el := by rw [oth_is]
  have e4 : (oth xv ds n).op = n.op := by rw [oth_is]
  have e5 : (oth xv ds n).nm = if n.k = 3 then ren ds n.nm else n.nm := by rw [oth_is]
  rw [e1, e2, e3, e4, e5]
  intro x
  unfold nodeB
  split
  ·exact prim_er _ _ _ x
  split
  ·exact step_er _ _ _ _ _
  split
  ·rename_i c1 c2 c3
   have hnm : n.nm ∈ names := by
    unfold fits at hf
    rw [if_neg c1, if_pos c3] at hf
    obtain ⟨s, hs, e⟩ := List.any_eq_true.1 hf
    have e' : s = n.nm := by simpa using e
    exact e' ▸ hs
   exact call_er (hk _ hnm) _ _ x
  split
  ·exact choice_er b1 b2 _ _ x
  split
  ·exact until_er b1 _ _ x
  split
  ·exact while_er b1 b2 _ _ x
  split
  ·exact again_er b1 _ _ x
  split
  ·exact do_er b1 _ _ x
  ·rcases er_cases (leave_er x.2 n.p (oth xv ds n).p x.1) with ⟨w, a1, a2⟩ | ⟨e, e', a1, a2, a3⟩
   ·rw [a1, a2]
   ·rw [a1, a2]; simp only [er, a3]) n
theorem body_er {f : ByteArray -> ByteArray} {kn kn' : ByteArray -> Option Ty} {names : List ByteArray} (hk : ∀ s ∈ names, OpR f (kn s) (kn' (ren ds s))) (l : List Nd) (j : Nat × Bool) (hcl : cks names l j = 0) : Sm (body kn l) (body kn' (ots xv ds l)) := by
 refine run_er _ _ (by simp [ots]) fun i f g hf hg => ?_
 unfold ots at hg
 rw [List.map_map, List.getElem?_map] at hg
 rw [List.getElem?_map] at hf
 cases e : l[i]? with
 | none => rw [e] at hf; cases hf
 | some m =>
  rw [e] at hf hg
  cases hf
  cases hg
  exact node_er xv ds hk m j (cks_mem hcl m (List.mem_of_getElem? e))
theorem word_er {f : ByteArray -> ByteArray} {kn kn' : ByteArray -> Option Ty} {names : List ByteArray} (hk : ∀ s ∈ names, OpR f (kn s) (kn' (ren ds s))) (d : Df) (hcl : cks names d.body (0, false) = 0) : er (word kn d) = er (word kn' (ot xv ds d)) := by
 unfold word
 have e1 : (ot xv ds d).body = ots xv ds d.body := rfl
 have e2 : (ot xv ds d).p = d.p := rfl
 rw [e1, e2]
 rcases er_cases (body_er xv ds hk d.body _ hcl (w0, s0)) with ⟨x, a1, a2⟩ | ⟨e, e', a1, a2, a3⟩
 ·rw [a1, a2]
 ·rw [a1, a2]; simp only [er, a3]
theorem tyOf_er {kn kn' : ByteArray -> Option Ty} {names : List ByteArray} (hk : ∀ s ∈ names, OpR (ren ds) (kn s) (kn' (ren ds s))) (d : Df) (hcl : cks names d.body (0, false) = 0) : TyR (ren ds) (tyOf kn d) (tyOf kn' (ot xv ds d)) := by
 unfold tyOf
 rcases er_cases (word_er xv ds hk d hcl) with ⟨x, a1, a2⟩ | ⟨e, e', a1, a2, a3⟩
 ·rw [a1, a2]; exact ⟨rfl, rfl, rfl, rfl, rfl, rfl, rfl⟩
 ·rw [a1, a2]; exact ⟨rfl, rfl, rfl, rfl, rfl, a3.symm, rfl⟩
end
open R (En lk numb chk Bk dsE dfE cks ck fits uses usesF own1 isNm)
set_option linter.unusedVariables false
set_option linter.unusedSimpArgs false
set_option maxHeartbeats 1000000
def LR (f : ByteArray -> ByteArray) (l l' : List Ty) : Prop := l.length = l'.length /\ ∀ (i : Nat) (t : Ty), l[i]? = some t -> ∃ t', l'[i]? = some t' /\ TyR f t t'
theorem LR.snoc {f : ByteArray -> ByteArray} {l l' : List Ty} {t t' : Ty} (h : LR f l l') (k : TyR f t t') : LR f (l ++ [t]) (l' ++ [t']) := by
 refine ⟨by rw [List.length_append, List.length_append, h.1]; rfl, fun i u hu => ?_⟩
 by_cases hi : i < l.length
 ·rw [List.getElem?_append_left hi] at hu
  rw [List.getElem?_append_left (by rw [<- h.1]; exact hi)]
  exact h.2 i u hu
 ·rw [List.getElem?_append_right (by omega)] at hu
  rw [List.getElem?_append_right (by rw [<- h.1]; omega), <- h.1]
  have : i - l.length = 0 := by
   have := (List.getElem?_eq_some_iff.1 hu).1
   simp at this
   omega
  rw [this] at hu ⊢
  simp at hu
  subst hu
  exact ⟨t', rfl, k⟩
section
variable (xv : Int -> Int) (ds : List Df)
theorem words_oth : wordsOf (othP xv ds) = (wordsOf ds).map (ot xv ds) := by
 unfold othP wordsOf
 rw [List.filter_cons_of_neg (by decide), List.filter_map]
 rfl
theorem w_nm {d : Df} (h : d ∈ wordsOf ds) : d.nm ∈ ds.map (·.nm) := List.mem_map.2 ⟨d, (List.mem_filter.1 h).1, rfl⟩
theorem lk_oth (hl : ds.length <= 1048576) (s : ByteArray) (hs : s ∈ ds.map (·.nm)) : lk (atW (othP xv ds)) (ren ds s) = lk (atW ds) s := by
 unfold atW
 rw [words_oth, List.map_map]
 have : ((wordsOf ds).map ((fun x => x.nm) ∘ ot xv ds)) = ((wordsOf ds).map (·.nm)).map (ren ds) := by rw [List.map_map]; rfl
 rw [this]
 refine lk_map (ren ds) s _ 0 fun t ht e => ?_
 obtain ⟨d, hd, rfl⟩ := List.mem_map.1 ht
 exact ren_inj ds hl (w_nm ds hd) hs e
theorem known_oth (hl : ds.length <= 1048576) {l l' : List Ty} (h : LR (ren ds) l l') (s : ByteArray) (hs : s ∈ ds.map (·.nm)) : OpR (ren ds) (known (atW ds) l s) (known (atW (othP xv ds)) l' (ren ds s)) := by
 unfold known
 rw [lk_oth xv ds hl s hs]
 cases hk : lk (atW ds) s with
 | none => exact .inl ⟨rfl, rfl⟩
 | some i =>
  simp only
  cases hi : l[i.toNat]? with
  | none =>
   refine .inl ⟨rfl, ?_⟩
   rw [List.getElem?_eq_none_iff] at hi ⊢
   rw [<- h.1]; exact hi
  | some t =>
   obtain ⟨t', h1, h2⟩ := h.2 _ t hi
   exact .inr ⟨t, t', rfl, h1, h2⟩
theorem word_ck (hds : dsE [] ds = 0) (k : Nat) (d : Df) (hk : (wordsOf ds)[k]? = some d) : ∃ names : List ByteArray, (∀ s ∈ names, s ∈ ds.map (·.nm)) /\ cks names d.body (0, false) = 0 := by
 obtain ⟨i, h1, h2⟩ := filter_at ds k d hk
 refine ⟨(ds.take i).map (·.nm), fun s hs => ?_, dfE_body _ d (by simpa using dsE_at ds [] hds i d h1)⟩
 obtain ⟨e, he, rfl⟩ := List.mem_map.1 hs
 exact List.mem_map.2 ⟨e, List.mem_of_mem_take he, rfl⟩
theorem tysP_oth (hl : ds.length <= 1048576) (hds : dsE [] ds = 0) : ∀ k, k <= (wordsOf ds).length -> LR (ren ds) (tysP (atW ds) [] ((wordsOf ds).take k)) (tysP (atW (othP xv ds)) [] (((wordsOf ds).map (ot xv ds)).take k))
 | 0, _ => ⟨rfl, fun i t h => by simp [tysP] at h⟩
 | k + 1, hk => by
  have ea := List.getElem?_eq_getElem (show k < (wordsOf ds).length by omega)
  generalize (wordsOf ds)[k] = d at ea
  rw [tysP_take _ _ k d ea, tysP_take _ _ k (ot xv ds d) (by rw [List.getElem?_map, ea]; rfl)]
  have ih := tysP_oth hl hds k (by omega)
  obtain ⟨names, hn, hc⟩ := word_ck ds hds k d ea
  exact ih.snoc (tyOf_er xv ds (fun s hs => known_oth xv ds hl ih s (hn s hs)) d hc)
theorem shs_oth (hl : ds.length <= 1048576) (hds : dsE [] ds = 0) : LR (ren ds) (shs ds) (shs (othP xv ds)) := by
 have h := tysP_oth xv ds hl hds (wordsOf ds).length (Nat.le_refl _)
 rw [List.take_of_length_le (Nat.le_refl _), List.take_of_length_le (by rw [List.length_map]; exact Nat.le_refl _)] at h
 unfold shs
 rw [words_oth]
 have e : atW (othP xv ds) = numb (((wordsOf ds).map (ot xv ds)).map (·.nm)) 0 := by unfold atW; rw [words_oth]
 rw [e] at h
 exact h
theorem nm_ne {s : ByteArray} (h : isNm s = true) : s.toList.isEmpty = false := by
 unfold isNm at h
 rw [Bool.and_eq_true] at h
 have h1 := h.1
 unfold T.nameB at h1
 rw [Bool.and_eq_true, decide_eq_true_eq] at h1
 rw [ByteArray.toList_eq]
 cases e : s.data.toList with
 | nil => rw [e] at h1; simp at h1
 | cons a r => rfl
theorem lk_empty (ns : List ByteArray) (hn : ∀ s ∈ ns, isNm s = true) (x : ByteArray) (hx : x.toList.isEmpty = true) : lk (numb ns 0) x = none := by
 refine lk_no x ns fun hm => ?_
 have := nm_ne (hn x hm)
 rw [hx] at this
 cases this
theorem names_nm (hds : dsE [] ds = 0) : ∀ s ∈ ds.map (·.nm), isNm s = true := by
 intro s hs
 obtain ⟨d, hd, rfl⟩ := List.mem_map.1 hs
 obtain ⟨i, hi⟩ := List.getElem?_of_mem hd
 exact (dfE_parts (dsE_at ds [] hds i d hi)).2.1
theorem emp_oth (hds : dsE [] ds = 0) (x : ByteArray) (hx : x.toList.isEmpty = true) : lk (atW ds) x = none /\ lk (atW (othP xv ds)) x = none := by
 constructor
 ·refine lk_empty _ (fun s hs => ?_) x hx
  obtain ⟨d, hd, rfl⟩ := List.mem_map.1 hs
  exact names_nm ds hds _ (w_nm ds hd)
 ·unfold atW
  rw [words_oth, List.map_map]
  refine lk_empty _ (fun s hs => ?_) x hx
  obtain ⟨d, hd, rfl⟩ := List.mem_map.1 hs
  exact ren_nm ds (w_nm ds hd) (names_nm ds hds _ (w_nm ds hd))
theorem mkN_oth (hl : ds.length <= 1048576) (hds : dsE [] ds = 0) (names : List ByteArray) (hn : ∀ s ∈ names, s ∈ ds.map (·.nm)) (n : Nd) : ∀ i, ck names n i = 0 -> mkN (atW (othP xv ds)) (oth xv ds n) = mkN (atW ds) n :=
 Nd.ind (P := fun n => ∀ i, ck names n i = 0 -> mkN (atW (othP xv ds)) (oth xv ds n) = mkN (atW ds) n) (fun n h1 h2 i hc => by
  obtain ⟨_, _, hf, ht, he⟩ := ckp hc
  have hu : uses n = true := by
   have h := hc
   rw [R.ck_is] at h
   have h0 : own1 names n i = 0 := by
    by_cases e : own1 names n i = 0
    ·exact e
    ·rw [if_neg e] at h; exact h
   cases hu : uses n with
   | true => rfl
   | false => unfold own1 at h0; rw [hu] at h0; simp at h0
  have bt : ∀ (l : List Nd) (j : Nat × Bool), (∀ m ∈ l, ∀ i, ck names m i = 0 -> mkN (atW (othP xv ds)) (oth xv ds m) = mkN (atW ds) m) -> cks names l j = 0 -> mks (atW (othP xv ds)) (ots xv ds l) = mks (atW ds) l := by
   intro l j hm hcl
   unfold mks ots
   rw [List.map_map]
   exact congrArg mrun (List.map_congr_left fun m hmm => hm m hmm j (cks_mem hcl m hmm))
  funext led
  rw [mkN_is, mkN_is]
  have e2 : (oth xv ds n).th = ots xv ds n.th := by rw [oth_is]
  have e3 : (oth xv ds n).el = ots xv ds n.el := by rw [oth_is]
  have e5 : (oth xv ds n).nm = if n.k = 3 then ren ds n.nm else n.nm := by rw [oth_is]
  rw [e2, e3, e5, bt n.th _ h1 ht, bt n.el _ h2 he]
  have em : mk1 (atW (othP xv ds)) (if n.k = 3 then ren ds n.nm else n.nm) led = mk1 (atW ds) n.nm led := by
   unfold mk1
   by_cases c3 : n.k = 3
   ·rw [if_pos c3, lk_oth xv ds hl n.nm]
    unfold fits at hf
    rw [if_neg (by omega), if_pos c3] at hf
    obtain ⟨s, hs, e⟩ := List.any_eq_true.1 hf
    have e' : s = n.nm := by simpa using e
    exact hn _ (e' ▸ hs)
   ·rw [if_neg c3]
    have hx : n.nm.toList.isEmpty = true := by
     unfold uses usesF at hu
     simp only [Bool.and_eq_true, Bool.or_eq_true] at hu
     rcases hu.2.2.2.2.1 with h | h
     ·exact absurd (by simpa using h) c3
     ·exact h
    obtain ⟨q1, q2⟩ := emp_oth xv ds hds n.nm hx
    rw [q1, q2]
  rw [em]) n
theorem mks_oth (hl : ds.length <= 1048576) (hds : dsE [] ds = 0) (names : List ByteArray) (hn : ∀ s ∈ names, s ∈ ds.map (·.nm)) (l : List Nd) (j : Nat × Bool) (hcl : cks names l j = 0) : mks (atW (othP xv ds)) (ots xv ds l) = mks (atW ds) l := by
 unfold mks ots
 rw [List.map_map]
 exact congrArg mrun (List.map_congr_left fun m hm => mkN_oth xv ds hl hds names hn m j (cks_mem hcl m hm))
theorem dnn_oth (hl : ds.length <= 1048576) (hds : dsE [] ds = 0) : ∀ (k : Nat) (led : List Bool), dnn (atW (othP xv ds)) ((wordsOf ds).map (ot xv ds)) k led = dnn (atW ds) (wordsOf ds) k led
 | 0, led => rfl
 | k + 1, led => by
  rw [dnn, dnn]
  have hb : mks (atW (othP xv ds)) (bodyAt ((wordsOf ds).map (ot xv ds)) k) = mks (atW ds) (bodyAt (wordsOf ds) k) := by
   unfold bodyAt
   rw [List.getElem?_map]
   cases hk : (wordsOf ds)[k]? with
   | none => rfl
   | some d =>
    obtain ⟨names, hn, hc⟩ := word_ck ds hds k d hk
    exact mks_oth xv ds hl hds names hn d.body _ hc
  rw [hb]
  exact dnn_oth hl hds k _
theorem fb_oth {f : ByteArray -> ByteArray} : ∀ (bs : List Bool) (l l' : List Ty), LR f l l' -> (fb bs l).map (·.1) = (fb bs l').map (·.1)
 | [], l, l', _ => rfl
 | b :: bs, [], l', h => by
  have : l' = [] := List.eq_nil_of_length_eq_zero h.1.symm
  subst this; rfl
 | b :: bs, t :: l, [], h => by simp [LR] at h
 | b :: bs, t :: l, t' :: l', h => by
  obtain ⟨u, hu, hr⟩ := h.2 0 t rfl
  simp at hu
  subst hu
  rw [fb_cons, fb_cons, hr.e]
  split
  ·rfl
  ·refine fb_oth (f := f) bs l l' ⟨by simpa using h.1, fun i t ht => ?_⟩
   have := h.2 (i + 1) t (by simpa using ht)
   simpa using this
theorem typ_oth (hl : ds.length <= 1048576) (bs : List Bk) (h : chk ds bs = 0) : (typP (othP xv ds) []).1 = (typP ds bs).1 := by
 have hds := chk_ds h
 have hsh := shs_oth xv ds hl hds
 obtain ⟨m, m1, m2, m3⟩ := main_in h
 have hmm : nMain ∈ ds.map (·.nm) := by
  obtain ⟨n, hn, hx⟩ := lk_at nMain _ 0 _ m1
  have := List.mem_of_getElem? hx
  obtain ⟨d, hd, e⟩ := List.mem_map.1 this
  exact e ▸ w_nm ds hd
 have hm' : mainAt (othP xv ds) = mainAt ds := by
  unfold mainAt
  have := lk_oth xv ds hl nMain hmm
  rw [ren_main] at this
  rw [this]
 unfold typP
 rw [if_pos h, if_pos (chk_oth xv ds hl bs h), hm', words_oth]
 have hled : ledP (atW (othP xv ds)) ((wordsOf ds).map (ot xv ds)) (mainAt ds) = ledP (atW ds) (wordsOf ds) (mainAt ds) := by
  unfold ledP
  rw [dnn_oth xv ds hl hds, List.length_map]
 rw [hled]
 have hf := fb_oth (ledP (atW ds) (wordsOf ds) (mainAt ds)) _ _ hsh
 cases h1 : fb (ledP (atW ds) (wordsOf ds) (mainAt ds)) (shs ds) with
 | some x =>
  rw [h1] at hf
  cases h2 : fb (ledP (atW ds) (wordsOf ds) (mainAt ds)) (shs (othP xv ds)) with
  | none => rw [h2] at hf; cases hf
  | some y =>
   rw [h2] at hf
   simp only [Option.map_some, Option.some.injEq] at hf
   exact hf.symm
 | none =>
  rw [h1] at hf
  cases h2 : fb (ledP (atW ds) (wordsOf ds) (mainAt ds)) (shs (othP xv ds)) with
  | some y => rw [h2] at hf; cases hf
  | none =>
   show (lastOf (othP xv ds) (mainAt ds)).1 = (lastOf ds (mainAt ds)).1
   unfold lastOf
   rw [words_oth, List.getElem?_map]
   cases ht : (shs ds)[mainAt ds]? with
   | none =>
    have : (shs (othP xv ds))[mainAt ds]? = none := by
     rw [List.getElem?_eq_none_iff] at ht ⊢
     rw [<- hsh.1]; exact ht
    rw [this]
   | some t =>
    obtain ⟨t', e1, e2⟩ := hsh.2 _ t ht
    rw [e1]
    cases (wordsOf ds)[mainAt ds]? with
    | none => rfl
    | some d =>
     simp only [Option.map_some, e2.i, e2.o]
     split <;> rfl
end
end Go.Proofs.YtlilefhmohkfkaaGreatDoor.E
