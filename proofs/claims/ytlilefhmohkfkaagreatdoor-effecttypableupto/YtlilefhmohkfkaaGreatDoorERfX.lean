import Derived.Test.YtlilefhmohkfkaaGreatDoorERfU
import Derived.Test.YtlilefhmohkfkaaGreatDoorEMark
import Derived.Test.YtlilefhmohkfkaaGreatDoorYMath
namespace Go.Proofs.YtlilefhmohkfkaaGreatDoor.E
open Go.Proofs.YtlilefhmohkfkaaGreatDoor.Y (Nd Df Ps nl nn nn_is nl_cons)
open R (En lk numb chk Bk dsE dfE ck cks cks_cons)
set_option linter.unusedVariables false
set_option linter.unusedSimpArgs false
set_option maxHeartbeats 1000000
def nmsN : Nd -> List ByteArray
 | ⟨k, _, _, nm, th, el, _, _⟩ => (if k = 3 then [nm] else []) ++ ((th.map nmsN).flatten ++ (el.map nmsN).flatten)
def nms (l : List Nd) : List ByteArray := (l.map nmsN).flatten
theorem nmsN_is (n : Nd) : nmsN n = (if n.k = 3 then [n.nm] else []) ++ (nms n.th ++ nms n.el) := by cases n; rw [nmsN]; rfl
theorem nms_nil : nms [] = [] := rfl
theorem nms_cons (n : Nd) (r : List Nd) : nms (n :: r) = nmsN n ++ nms r := by simp [nms]
theorem nms_take (l : List Nd) (k : Nat) (n : Nd) (h : l[k]? = some n) : nms (l.take (k + 1)) = nms (l.take k) ++ nmsN n := by
 rw [List.take_add_one, h]
 simp [nms]
theorem nms_len : ∀ l : List Nd, (nms l).length <= nl l := by
 have hN : ∀ n : Nd, (nmsN n).length <= nn n := Nd.ind (P := fun n => (nmsN n).length <= nn n) fun n h1 h2 => by
  have hl : ∀ l : List Nd, (∀ m ∈ l, (nmsN m).length <= nn m) -> (nms l).length <= nl l := by
   intro l
   induction l with
   | nil => intro _; simp [nms]
   | cons a r ih =>
    intro h
    rw [nms_cons, nl_cons, List.length_append]
    have := h a (by simp)
    have := ih fun m hm => h m (by simp [hm])
    omega
  rw [nmsN_is, nn_is, List.length_append, List.length_append]
  have := hl n.th h1
  have := hl n.el h2
  split
  ·simp; omega
  ·simp; omega
 intro l
 induction l with
 | nil => simp [nms]
 | cons a r ih =>
  rw [nms_cons, nl_cons, List.length_append]
  have := hN a
  omega
theorem lk_is (names : List ByteArray) (hn : names.Nodup) (s : ByteArray) (i : Nat) (hi : names[i]? = some s) (x : ByteArray) (z : Int) (h : lk (numb names 0) x = some z) : z.toNat = i ↔ s = x := by
 obtain ⟨n, rfl, hx⟩ := lk_at x names 0 z h
 rw [Nat.zero_add]
 show (n : Int).toNat = i ↔ s = x
 rw [Int.toNat_natCast]
 constructor
 ·rintro rfl
  rw [hx] at hi
  exact (Option.some.inj hi).symm
 ·rintro rfl
  obtain ⟨l1, e1⟩ := List.getElem?_eq_some_iff.1 hx
  obtain ⟨l2, e2⟩ := List.getElem?_eq_some_iff.1 hi
  exact (List.getElem_inj hn).1 (e1.trans e2.symm)
theorem mk1_mem (names : List ByteArray) (hn : names.Nodup) (nm : ByteArray) (led : List Bool) (hl : led.length = names.length) (i : Nat) (s : ByteArray) (hi : names[i]? = some s) : (mk1 (numb names 0) nm led)[i]? = some true ↔ led[i]? = some true \/ s = nm := by
 have hlt : i < led.length := by rw [hl]; exact (List.getElem?_eq_some_iff.1 hi).1
 unfold mk1
 cases h : lk (numb names 0) nm with
 | none =>
  simp only
  refine ⟨.inl, fun c => c.elim id fun e => ?_⟩
  subst e
  have := lk_get s names 0 i hn hi
  rw [h] at this
  cases this
 | some z =>
  simp only
  rw [List.getElem?_set]
  by_cases hz : z.toNat = i
  ·rw [if_pos hz, hz, if_pos hlt]
   exact ⟨fun _ => .inr ((lk_is names hn s i hi nm z h).1 hz), fun _ => rfl⟩
  ·rw [if_neg hz]
   exact ⟨.inl, fun c => c.elim id fun e => absurd ((lk_is names hn s i hi nm z h).2 e) hz⟩
theorem mkN_mem (names : List ByteArray) (hn : names.Nodup) (he : (⟨#[]⟩ : ByteArray) ∉ names) (ks : List ByteArray) : ∀ (n : Nd) (j : Nat × Bool), ck ks n j = 0 -> ∀ (led : List Bool), led.length = names.length -> ∀ (i : Nat) (s : ByteArray), names[i]? = some s -> ((mkN (numb names 0) n led)[i]? = some true ↔ led[i]? = some true \/ s ∈ nmsN n) := by
 refine Nd.ind (P := fun n => ∀ (j : Nat × Bool), ck ks n j = 0 -> ∀ (led : List Bool), led.length = names.length -> ∀ (i : Nat) (s : ByteArray), names[i]? = some s -> ((mkN (numb names 0) n led)[i]? = some true ↔ led[i]? = some true \/ s ∈ nmsN n)) fun n h1 h2 j hck led hl i s hi => ?_
 obtain ⟨hu, hf, hc1, hc2⟩ := ck_parts ks n j hck
 have hL : ∀ (l : List Nd), (∀ m ∈ l, ∀ (j : Nat × Bool), ck ks m j = 0 -> ∀ (led : List Bool), led.length = names.length -> ∀ (i : Nat) (s : ByteArray), names[i]? = some s -> ((mkN (numb names 0) m led)[i]? = some true ↔ led[i]? = some true \/ s ∈ nmsN m)) -> ∀ (j : Nat × Bool), cks ks l j = 0 -> ∀ (led : List Bool), led.length = names.length -> ((mks (numb names 0) l led)[i]? = some true ↔ led[i]? = some true \/ s ∈ nms l) := by
  intro l
  induction l with
  | nil => intro _ j _ led _; rw [mks_nil, nms_nil]; simp
  | cons a r ih =>
   intro h j hc led hled
   rw [cks_cons] at hc
   have ha : ck ks a j = 0 := by
    by_cases e : ck ks a j = 0
    ·exact e
    ·rw [if_neg e] at hc; exact absurd hc e
   rw [if_pos ha] at hc
   rw [mks_cons, nms_cons, ih (fun m hm => h m (by simp [hm])) j hc _ (by rw [mkN_len]; exact hled), h a (by simp) j ha led hled i s hi, List.mem_append]
   exact or_assoc
 rw [mkN_is, nmsN_is, hL n.el h2 _ hc2 _ (by rw [mks_len, mk1_len]; exact hl), hL n.th h1 _ hc1 _ (by rw [mk1_len]; exact hl), mk1_mem names hn n.nm led hl i s hi]
 simp only [List.mem_append]
 by_cases h3 : n.k = 3
 ·rw [if_pos h3]
  simp only [List.mem_singleton]
  rw [or_assoc, or_assoc]
 ·rw [if_neg h3]
  have hne : s ≠ n.nm := fun e => he (by
   have : n.nm = ⟨#[]⟩ := by
    unfold R.uses R.usesF at hu
    simp only [Bool.and_eq_true, Bool.or_eq_true, beq_iff_eq] at hu
    have := hu.2.2.2.2.1
    rcases this with c | c
    ·exact absurd c h3
    ·exact R.toList_inj (by simpa using c)
   rw [<- this, <- e]
   exact List.mem_of_getElem? hi)
  simp only [List.not_mem_nil, false_or]
  constructor
  ·rintro (((c | c) | c) | c)
   ·exact .inl c
   ·exact absurd c hne
   ·exact .inr (.inl c)
   ·exact .inr (.inr c)
  ·rintro (c | c | c)
   ·exact .inl (.inl (.inl c))
   ·exact .inl (.inr c)
   ·exact .inr c
theorem mks_mem (names : List ByteArray) (hn : names.Nodup) (he : (⟨#[]⟩ : ByteArray) ∉ names) (ks : List ByteArray) : ∀ (l : List Nd) (j : Nat × Bool), cks ks l j = 0 -> ∀ (led : List Bool), led.length = names.length -> ∀ (i : Nat) (s : ByteArray), names[i]? = some s -> ((mks (numb names 0) l led)[i]? = some true ↔ led[i]? = some true \/ s ∈ nms l)
 | [], j, _, led, _, i, s, _ => by rw [mks_nil, nms_nil]; simp
 | a :: r, j, hc, led, hled, i, s, hi => by
  rw [cks_cons] at hc
  have ha : ck ks a j = 0 := by
   by_cases e : ck ks a j = 0
   ·exact e
   ·rw [if_neg e] at hc; exact absurd hc e
  rw [if_pos ha] at hc
  rw [mks_cons, nms_cons, mks_mem names hn he ks r j hc _ (by rw [mkN_len]; exact hled) i s hi, mkN_mem names hn he ks a j ha led hled i s hi, List.mem_append]
  exact or_assoc
def inB (L : List ByteArray) (s : ByteArray) : Bool := L.any fun x => decide (x = s)
theorem inB_iff (L : List ByteArray) (s : ByteArray) : inB L s = true ↔ s ∈ L := by
 unfold inB
 rw [List.any_eq_true]
 exact ⟨fun ⟨x, h1, h2⟩ => (by simpa using h2 : x = s) ▸ h1, fun h => ⟨s, h, by simp⟩⟩
def ledF (L : List ByteArray) (d : Df) : List ByteArray := if inB L d.nm = true then L ++ nms d.body else L
def ledD (ds : List Df) : Nat -> List ByteArray -> List ByteArray
 | 0, L => L
 | k + 1, L => match ds[k]? with | none => ledD ds k L | some d => ledD ds k (ledF L d)
def ledR (ds : List Df) : List ByteArray := ledD ds ds.length [nMain]
def ML (ws : List Df) (led : List Bool) (L : List ByteArray) : Prop := led.length = ws.length /\ ∀ (i : Nat) (d : Df), ws[i]? = some d -> (led[i]? = some true ↔ d.nm ∈ L)
theorem empty_no (ds : List Df) (h : dsE [] ds = 0) : (⟨#[]⟩ : ByteArray) ∉ (wordsOf ds).map (·.nm) := by
 intro hm
 obtain ⟨d, hd, he⟩ := List.mem_map.1 hm
 obtain ⟨k, hk⟩ := List.getElem?_of_mem (List.mem_filter.1 hd).1
 have h1 := dsE_at ds [] h k d hk
 unfold dfE at h1
 split at h1
 ·cases h1
 ·split at h1
  ·cases h1
  ·rename_i hnm
   rw [he] at hnm
   exact absurd (by kernel_rfl : R.isNm ⟨#[]⟩ = false) hnm
theorem led_sim (ds : List Df) (h : dsE [] ds = 0) : ∀ (k : Nat), k <= ds.length -> ∀ (led : List Bool) (L : List ByteArray), ML (wordsOf ds) led L -> ML (wordsOf ds) (dnn (atW ds) (wordsOf ds) (wordsOf (ds.take k)).length led) (ledD ds k L)
 | 0, _, led, L, hm => by
  rw [List.take_zero]
  exact hm
 | k + 1, hk, led, L, hm => by
  have hlt : k < ds.length := by omega
  have ea := List.getElem?_eq_getElem hlt
  generalize ds[k] = d at ea
  rw [words_take ds k d ea, ledD, ea]
  simp only
  by_cases h1 : d.k = 1
  ·rw [if_pos h1, List.length_append, List.length_singleton]
   have hw : (wordsOf ds)[(wordsOf (ds.take k)).length]? = some d := by
    have e : wordsOf ds = wordsOf (ds.take k) ++ wordsOf (ds.drop k) := by unfold wordsOf; rw [<- List.filter_append, List.take_append_drop]
    have hd : ds.drop k = d :: ds.drop (k + 1) := by
     rw [List.drop_eq_getElem_cons hlt]
     congr 1
     rw [List.getElem?_eq_getElem hlt] at ea
     exact Option.some.inj ea
    rw [e, List.getElem?_append_right (Nat.le_refl _), Nat.sub_self, hd]
    unfold wordsOf
    rw [List.filter_cons_of_pos (by simpa using h1)]
    rfl
   have ih := led_sim ds h k (by omega)
   generalize (wordsOf (ds.take k)).length = c at *
   rw [dnn]
   have hb : bodyAt (wordsOf ds) c = d.body := by unfold bodyAt; rw [hw]
   rw [hb]
   refine ih _ _ ?_
   have hgd : led.getD c false = true ↔ inB L d.nm = true := by
    rw [inB_iff, <- hm.2 c d hw, List.getD_eq_getElem?_getD]
    cases led[c]? with
    | none => simp
    | some b => cases b <;> simp
   unfold ledF
   by_cases hi : inB L d.nm = true
   ·rw [if_pos hi, if_pos (hgd.2 hi)]
    refine ⟨by rw [mks_len]; exact hm.1, fun i e hie => ?_⟩
    have hck := dfE_body _ d (dsE_at ds [] h k d ea)
    have := mks_mem _ (words_nodup ds h) (empty_no ds h) _ d.body (0, false) hck led (by rw [List.length_map]; exact hm.1) i e.nm (by rw [List.getElem?_map, hie]; rfl)
    rw [List.mem_append, <- hm.2 i e hie]
    exact this
   ·rw [if_neg hi, if_neg (fun c => hi (hgd.1 c))]
    exact hm
  ·rw [if_neg h1, List.append_nil]
   have hbd : d.body = [] := by
    have h2 := dsE_at ds [] h k d ea
    unfold dfE at h2
    split at h2
    ·cases h2
    ·rename_i hf
     unfold R.fieldsF at hf
     rw [if_neg h1] at hf
     split at hf
     ·simpa using hf
     ·simp at hf
   have hf : ledF L d = L := by
    unfold ledF
    rw [hbd, nms_nil, List.append_nil]
    split <;> rfl
   rw [hf]
   exact led_sim ds h k (by omega) led L hm
theorem dnn_up (at_ : En) (ws : List Df) (m : Nat) (led : List Bool) (h : ∀ i, m < i -> led.getD i false = false) : ∀ k, m + 1 <= k -> dnn at_ ws k led = dnn at_ ws (m + 1) led
 | 0, hk => by omega
 | k + 1, hk => by
  by_cases e : m = k
  ·rw [e]
  ·rw [dnn, h k (by omega)]
   simp only [Bool.false_eq_true, if_false]
   exact dnn_up at_ ws m led h k (by omega)
theorem led_is (ds : List Df) (bs : List Bk) (h : chk ds bs = 0) : ML (wordsOf ds) (ledP (atW ds) (wordsOf ds) (mainAt ds)) (ledR ds) := by
 obtain ⟨m, h1, h2, h3⟩ := main_in h
 have hd := chk_ds h
 obtain ⟨n, e, hn⟩ := lk_at nMain _ 0 _ h1
 rw [Nat.zero_add] at e
 have e' : m = n := by omega
 subst e'
 rw [h3]
 have h0 : ML (wordsOf ds) ((List.replicate (wordsOf ds).length false).set m true) [nMain] := by
  refine ⟨by simp, fun i d hi => ?_⟩
  have hin : ((wordsOf ds).map (·.nm))[i]? = some d.nm := by rw [List.getElem?_map, hi]; rfl
  rw [List.getElem?_set, List.length_replicate, List.mem_singleton]
  by_cases c : m = i
  ·rw [if_pos c, if_pos (by omega)]
   subst c
   rw [hn] at hin
   exact ⟨fun _ => (Option.some.inj hin).symm, fun _ => rfl⟩
  ·rw [if_neg c, List.getElem?_replicate]
   constructor
   ·intro x
    split at x <;> simp at x
   ·intro x
    rw [x] at hin
    obtain ⟨l1, e1⟩ := List.getElem?_eq_some_iff.1 hin
    obtain ⟨l2, e2⟩ := List.getElem?_eq_some_iff.1 hn
    exact absurd ((List.getElem_inj (words_nodup ds hd)).1 (e2.trans e1.symm)) c
 have := led_sim ds hd ds.length (Nat.le_refl _) _ _ h0
 rw [List.take_length, dnn_up _ _ m _ (fun i hi => by
  rw [List.getD_eq_getElem?_getD, List.getElem?_set, if_neg (by omega), List.getElem?_replicate]
  split <;> rfl) _ (by omega)] at this
 exact this
def fbR (L : List ByteArray) : List Ty -> Option (Int × Ps)
 | [] => none
 | t :: r => if t.e ≠ 0 /\ inB L t.nm = true then some (t.e, t.p) else fbR L r
def lsR (q : Ps) : List Ty -> Int × Ps
 | [] => (0, (0, 0))
 | t :: r => if t.nm = nMain /\ (t.i ≠ 0 \/ (t.nv = false /\ t.o ≠ 0)) then (154, q) else lsR q r
def plR (nm : ByteArray) : List Df -> Ps
 | [] => (0, 0)
 | d :: r => if d.nm = nm then d.p else plR nm r
def typR (ds : List Df) (bs : List Bk) : Int × Ps :=
 if chk ds bs = 0 then (fbR (ledR ds) (tys [] (wordsOf ds))).getD (lsR (plR nMain ds) (tys [] (wordsOf ds))) else (chk ds bs, (0, 0))
theorem fb_is (L : List ByteArray) : ∀ (led : List Bool) (tl : List Ty), led.length = tl.length -> (∀ (i : Nat) (t : Ty), tl[i]? = some t -> (led[i]? = some true ↔ inB L t.nm = true)) -> fb led tl = fbR L tl
 | [], [], _, _ => rfl
 | b :: bs, t :: ts, hl, h => by
  rw [fb_cons, fbR]
  have h0 := h 0 t rfl
  simp only [List.getElem?_cons_zero, Option.some.injEq] at h0
  have ih := fb_is L bs ts (by simpa using hl) fun i t' ht => by simpa using h (i + 1) t' (by simpa using ht)
  by_cases c : b = true /\ t.e ≠ 0
  ·rw [if_pos c, if_pos ⟨c.2, h0.1 c.1⟩]
  ·rw [if_neg c, if_neg (fun x => c ⟨h0.2 x.2, x.1⟩)]
   exact ih
 | [], _ :: _, hl, _ => by simp at hl
 | _ :: _, [], hl, _ => by simp at hl
theorem lsR_at (q : Ps) : ∀ (tl : List Ty) (m : Nat) (t : Ty), (tl.map (·.nm)).Nodup -> tl[m]? = some t -> t.nm = nMain -> lsR q tl = if t.i ≠ 0 \/ (t.nv = false /\ t.o ≠ 0) then (154, q) else (0, (0, 0))
 | [], m, t, _, h, _ => by simp at h
 | a :: r, 0, t, hn, h, he => by
  simp only [List.getElem?_cons_zero, Option.some.injEq] at h
  subst h
  rw [lsR]
  by_cases c : a.i ≠ 0 \/ (a.nv = false /\ a.o ≠ 0)
  ·rw [if_pos ⟨he, c⟩, if_pos c]
  ·rw [if_neg (fun x => c x.2), if_neg c]
   rw [List.map_cons, List.nodup_cons] at hn
   have : ∀ l : List Ty, nMain ∉ l.map (·.nm) -> lsR q l = (0, (0, 0)) := by
    intro l
    induction l with
    | nil => intro _; rfl
    | cons b l ih =>
     intro hb
     rw [lsR, if_neg (fun x => hb (by rw [<- x.1]; simp))]
     exact ih fun x => hb (by simp only [List.map_cons, List.mem_cons]; exact .inr x)
   exact this r (by rw [<- he]; exact hn.1)
 | a :: r, m + 1, t, hn, h, he => by
  simp only [List.getElem?_cons_succ] at h
  rw [List.map_cons, List.nodup_cons] at hn
  have hne : ¬ a.nm = nMain := fun e => hn.1 (List.mem_map.2 ⟨t, List.mem_of_getElem? h, by rw [he, e]⟩)
  rw [lsR, if_neg (fun x => hne x.1)]
  exact lsR_at q r m t hn.2 h he
theorem plR_at : ∀ (ds : List Df) (d : Df), (ds.map (·.nm)).Nodup -> d ∈ ds -> plR d.nm ds = d.p
 | [], d, _, h => by cases h
 | a :: r, d, hn, h => by
  rw [plR]
  rw [List.map_cons, List.nodup_cons] at hn
  rcases List.mem_cons.1 h with rfl | h
  ·rw [if_pos rfl]
  ·rw [if_neg (fun e => hn.1 (List.mem_map.2 ⟨d, h, e.symm⟩))]
   exact plR_at r d hn.2 h
theorem ty_nv (kn : ByteArray -> Option Ty) (d : Df) : (tyOf kn d).nv = true -> (tyOf kn d).o = 0 := by
 unfold tyOf
 split
 ·intro c; cases c
 ·rename_i w _
  intro c
  simp only at c
  simp [c]
theorem tys_nv : ∀ (r : List Df) (l : List Ty), (∀ t ∈ l, t.nv = true -> t.o = 0) -> ∀ t ∈ tys l r, t.nv = true -> t.o = 0
 | [], l, h => h
 | d :: r, l, h => by
  rw [tys]
  refine tys_nv r _ fun t ht => ?_
  rcases List.mem_append.1 ht with ht | ht
  ·exact h t ht
  ·rw [List.mem_singleton] at ht
   subst ht
   exact ty_nv _ d
theorem typR_is (ds : List Df) (bs : List Bk) : typR ds bs = typP ds bs := by
 unfold typR typP
 by_cases hz : chk ds bs = 0
 ·rw [if_pos hz, if_pos hz]
  have hd := chk_ds hz
  have hs := shs_is ds hd
  have hnm : (tys [] (wordsOf ds)).map (·.nm) = (wordsOf ds).map (·.nm) := by rw [tys_nm]; simp
  have hlen : (tys [] (wordsOf ds)).length = (wordsOf ds).length := by rw [tys_len]; simp
  have hM := led_is ds bs hz
  obtain ⟨m, h1, h2, h3⟩ := main_in hz
  obtain ⟨n, e, hn⟩ := lk_at nMain _ 0 _ h1
  rw [Nat.zero_add] at e
  have e' : m = n := by omega
  subst e'
  have hdm := List.getElem?_eq_getElem h2
  generalize (wordsOf ds)[m] = d at hdm
  have hdn : d.nm = nMain := by rw [List.getElem?_map, hdm] at hn; exact Option.some.inj hn
  obtain ⟨t, ht⟩ : ∃ t, (tys [] (wordsOf ds))[m]? = some t := ⟨_, List.getElem?_eq_getElem (by omega)⟩
  have htn : t.nm = nMain := by
   have : ((tys [] (wordsOf ds)).map (·.nm))[m]? = some t.nm := by rw [List.getElem?_map, ht]; rfl
   rw [hnm, hn] at this
   exact (Option.some.inj this).symm
  have hnv := tys_nv (wordsOf ds) [] (by simp) t (List.mem_of_getElem? ht)
  rw [hs, fb_is (ledR ds) _ _ (by rw [hM.1, hlen]) (fun i t' ht' => by
   have hlt := (List.getElem?_eq_some_iff.1 ht').1
   have hw := List.getElem?_eq_getElem (l := wordsOf ds) (i := i) (by omega)
   generalize (wordsOf ds)[i] = d' at hw
   have : ((tys [] (wordsOf ds)).map (·.nm))[i]? = some t'.nm := by rw [List.getElem?_map, ht']; rfl
   rw [hnm, List.getElem?_map, hw] at this
   have e2 : d'.nm = t'.nm := Option.some.inj this
   rw [hM.2 i d' hw, inB_iff, e2])]
  congr 1
  rw [lsR_at _ _ m t (by rw [hnm]; exact words_nodup ds hd) ht htn]
  unfold lastOf
  rw [hs, h3, ht, hdm]
  simp only
  rw [<- hdn, plR_at ds d (by have := nodup_of ds [] (by simp) hd; simpa using this) (List.mem_filter.1 (List.mem_of_getElem? hdm)).1]
  by_cases c : t.i ≠ 0 \/ t.o ≠ 0
  ·rw [if_pos c, if_pos]
   rcases c with c | c
   ·exact .inl c
   ·refine .inr ⟨?_, c⟩
    cases hh : t.nv
    ·rfl
    ·exact absurd (hnv hh) c
  ·rw [if_neg c, if_neg]
   rintro (x | x)
   ·exact c (.inl x)
   ·exact c (.inr x.2)
 ·rw [if_neg hz, if_neg hz]
open Go.RowKit
open Go.Proofs
open Go.Proofs.YtlilefhmohkfkaaGreatDoor.Y (Nd Df Ps ndc dfc hid NV DV D1 BV cells9 cells6 nl nl_th nl_el nl_len)
open R (En lk numb chk Bk dsE dfE ck cks cks_cons)
set_option linter.unusedVariables false
set_option linter.unusedSimpArgs false
set_option maxHeartbeats 2000000
set_option maxRecDepth 100000
def eS (s : ByteArray) : List Value := [.string s]
theorem hES (s : ByteArray) : (eS s).length = 1 := rfl
theorem oneS (l : List ByteArray) : ∀ u ∈ S.en eS l, u.oneCell' = true := by intro u hu; simp [S.en, eS] at hu; obtain ⟨x, _, rfl⟩ := hu; rfl
theorem infoS : (Tryz.prog.info? 9).map (fun i => (i.zero, i.size, i.bytes)) = some (some (.string ⟨#[]⟩), 1, 16) := by kernel_rfl
theorem in_r (L : List ByteArray) (hl : L.length <= 140737488355328) (nm : ByteArray) (v : Value) (g : Nat) (W : World) (h : QV eS 1 9 W g v L) :
  Calls Tryz.prog 37 #[v, .string nm] W fun e w' => e = .returned (.bool (inB L nm)) /\ w' = W := by
 obtain ⟨q, c, rfl, _, hcl⟩ := id h.ex
 have HC := hid hcl
 clear hcl h
 go_enter Tryz.func37, Tryz.ntmps37
 go_wp2
 go_loopw [5] (fun ix wr => ∃ k : Nat, k <= L.length /\ ix = .int .i64 (k : Int) /\ wr = W /\ inB (L.take k) nm = false) (fun ix _ => L.length - (intOf ix).toNat)
 case atStart => exact ⟨0, by omega, rfl, rfl, rfl⟩
 case round =>
  obtain ⟨k, hk, rfl, rfl, hnf⟩ := hrel
  by_cases hlt : k < L.length
  ·have i1 : (k : Int) < L.length := by omega
   have ea := List.getElem?_eq_getElem hlt
   have hmem := List.getElem_mem hlt
   have HT : Y.Hd (inB (L.take (k + 1)) nm = decide (L[k] = nm)) := ⟨by
    rw [List.take_add_one, ea]
    unfold inB at hnf ⊢
    rw [List.any_append, hnf]
    simp⟩
   have HM : Y.Hd (L[k] = nm -> inB L nm = true) := ⟨fun e => (inB_iff L nm).2 (e ▸ hmem)⟩
   generalize L[k] = t at *
   obtain ⟨b, rfl, _, hbl, hcl⟩ := HC.out k t ea
   have e0 := hcl 0 _ rfl
   rw [Nat.mul_one, Nat.add_zero] at e0
   clear hcl ea hnf hmem
   by_cases hn : t = nm
   ·have d1 : (t.toList == nm.toList) = true := by rw [hn]; simp
    have HR := hid (HM.out hn)
    clear hn
    go_wp2
    go_ret
    exact ⟨by rw [HR.out]; rfl, rfl⟩
   ·have hn2 : ¬ t.toList = nm.toList := fun e => hn (R.toList_inj e)
    have d1 : (t.toList == nm.toList) = false := by simpa using hn2
    have HR : Y.Hd (inB (L.take (k + 1)) nm = false) := ⟨by rw [HT.out, decide_eq_false hn]⟩
    clear hn
    go_wp2
    go_roundw
    case rel =>
     first
      | exact ⟨k + 1, by omega, by go_num, rfl, HR.out⟩
      | exact ⟨k + 1, by omega, by go_num, trivial, HR.out⟩
      | exact ⟨k + 1, by omega, by go_num, HR.out⟩
    case measure => simp [intOf]; omega
  ·have i1 : ¬ (k : Int) < L.length := by omega
   rw [List.take_of_length_le (by omega)] at hnf
   have HR := hid hnf
   clear hnf
   go_wp2
   go_ret
   exact ⟨by rw [HR.out]; rfl, rfl⟩
def NR (l : List Nd) : Prop := ∀ (v : Value) (O : Nat -> Prop) (W : World), (∀ i, O i -> i < W.heap.size) -> NV W O v l -> nl l <= 1048576 ->
  Calls Tryz.prog 50 #[v] W fun e w' => ∃ p c, e = .returned (.slice p (nms l).length c) /\ w'.ownsRow W.heap.size 9 1 (.slice p (nms l).length c) (nms l).length (S.en eS (nms l)) /\ Below W.heap.size W w'
theorem names_of (l : List Nd) (hn : ∀ m ∈ l, NR m.th /\ NR m.el) : NR l := by
 intro v O W hO h hsz
 obtain ⟨p, c, rfl, hl, hp⟩ := h.ex
 have hll := nl_len l
 have hnl := nms_len l
 clear h
 go_enter Tryz.func50, Tryz.ntmps50
 go_wp2
 go_loopw [3, 4] (fun s ix wr => ∃ k : Nat, k <= l.length /\ ix = .int .i64 (k : Int) /\ wr.ownsRow W.heap.size 9 1 s (nms (l.take k)).length (S.en eS (nms (l.take k))) /\ Below W.heap.size W wr) (fun _ ix _ => l.length - (intOf ix).toNat)
 case atStart => exact ⟨0, by omega, rfl, World.ownsRow_nil W _ _ _, Below.refl _ _⟩
 case round =>
  obtain ⟨k, hk, rfl, hR, hB⟩ := hrel
  obtain ⟨qo, co, rfl⟩ := q_sl hR
  by_cases hlt : k < l.length
  ·have i1 : (k : Int) < l.length := by omega
   have ea := List.getElem?_eq_getElem hlt
   have hm := hn l[k] (List.getElem_mem _)
   have hn1 := nl_th (List.getElem_mem hlt)
   have hn2 := nl_el (List.getElem_mem hlt)
   have hle : (nms (l.take k)).length + (nmsN l[k]).length <= 1048576 := by
    have e := nms_take l k _ ea
    have h3 : (nms (l.take (k + 1))).length <= (nms l).length := by
     have e2 : nms l = nms (l.take (k + 1)) ++ nms (l.drop (k + 1)) := by unfold nms; rw [<- List.flatten_append, <- List.map_append, List.take_append_drop]
     rw [e2, List.length_append]; omega
    rw [e, List.length_append] at h3
    omega
   have HT : Y.Hd (nms (l.take (k + 1)) = nms (l.take k) ++ ((if l[k].k = 3 then [l[k].nm] else []) ++ (nms l[k].th ++ nms l[k].el))) := ⟨by rw [nms_take l k _ ea, nmsN_is]⟩
   rw [nmsN_is, List.length_append, List.length_append] at hle
   generalize l[k] = n at *
   obtain ⟨b, o, hpp, hOb, hN⟩ := hp k n ea
   subst hpp
   obtain ⟨tv, ev, hc, ht, he⟩ := hN.ex
   obtain ⟨q1, d1, rfl, _, _⟩ := id ht.ex
   obtain ⟨q2, d2, rfl, _, _⟩ := id he.ex
   have HCL : Y.Hd (∀ X, Below W.heap.size W X -> X.cell? ⟨b, o + k * 9, none⟩ = some (.int .i64 n.k) /\ X.cell? ⟨b, o + k * 9 + 3, none⟩ = some (.string n.nm) /\ X.cell? ⟨b, o + k * 9 + 4, none⟩ = some (.slice q1 n.th.length d1) /\ X.cell? ⟨b, o + k * 9 + 5, none⟩ = some (.slice q2 n.el.length d2)) := ⟨fun X hX => by
    obtain ⟨g0, g1, g2, g3, g4, g5, g6, g7, g8⟩ := cells9 fun j x hx => (World.cell?_of_block (w := W) (w' := X) (a := ⟨b, o + k * 9 + j, none⟩) (hX.block b (hO b hOb))).trans (hc j x hx)
    exact ⟨g0, g3, g4, g5⟩⟩
   obtain ⟨g0, g3, g4, g5⟩ := HCL.out wr hB
   generalize nms (l.take k) = L at *
   have HO := hid (And.intro hO (And.intro ht (And.intro he hm)))
   have HB := hid hB
   have hsW := hB.size
   clear hB hO ht he hm hc hN ea hp hn
   go_upto_if 16 with fail
   go_cut [3] (fun s3 wc => wc.ownsRow W.heap.size 9 1 s3 (L.length + (if n.k = 3 then [n.nm] else []).length) (S.en eS L ++ S.en eS (if n.k = 3 then [n.nm] else [])) /\ Below W.heap.size W wc)
   case first =>
    by_cases h3 : n.k = 3
    ·have d3 : (n.k == 3) = true := by simpa using h3
     have HE : Y.Hd ((if n.k = 3 then [n.nm] else []) = [n.nm]) := ⟨if_pos h3⟩
     obtain ⟨y1, hy1⟩ : ∃ y1, wr.alloc (.cells #[.string n.nm] 9) = y1 := ⟨_, rfl⟩
     have kb : Below wr.heap.size wr y1 := by rw [<- hy1]; exact (Below.refl _ _).alloc (Nat.le_refl _) _
     have vb : y1.heap[wr.heap.size]? = some (.cells (S.en eS [n.nm]).toArray 9 (0, 0)) := by rw [<- hy1]; exact heap_alloc_new wr _
     have hcs : S.Cs y1 (.slice (some ⟨wr.heap.size, 0, none⟩) 1 1) 1 1 (S.en eS [n.nm]) := .inr ⟨_, _, rfl, rfl, fun j u hj => by rw [Addr.add_lit, Nat.zero_add]; exact S.cell_of y1 _ j _ _ u vb hj, oneS _⟩
     have oR : y1.ownsRow W.heap.size 9 1 (.slice qo L.length co) L.length (S.en eS L) := S.own_kept hR fun g _ hg => kb.block g hg
     have hsz1 : W.heap.size <= y1.heap.size := Nat.le_trans hsW kb.size
     have HBy := hid (HB.out.trans (kb.mono hsW))
     have hlb : L.length + 1 <= 1048577 := by omega
     rw [h3] at g0
     clear kb vb hR h3 hle
     go_wp2_with (refine S.wpList_append_row y1 rfl _ _ 64 9 _ 1 16 Tryz.underlying64 infoS rfl (by decide) rfl W.heap.size (.slice qo L.length co) L.length (S.en eS L) rfl oR _ 1 _ rfl hcs (by unfold S.room; omega) (by unfold maxLen; omega) hsz1 (fun v5 w5 hr1 hg1 => ?_); have HG := hid (And.intro hr1 hg1); clear hr1 hg1)
     go_meet
     case rel =>
      rw [HE.out]
      exact ⟨HG.out.1, HBy.out.trans (HG.out.2.below (fun g hg => q_ge oR g hg) hsz1)⟩
    ·have d3 : (n.k == 3) = false := by simpa using h3
     have HE : Y.Hd ((if n.k = 3 then [n.nm] else []) = []) := ⟨if_neg h3⟩
     have HRR := hid hR
     clear hR h3 hle
     go_wp2
     go_meet
     case rel =>
      rw [HE.out]
      exact ⟨by simpa [S.en] using HRR.out, HB.out⟩
   case rest =>
    obtain ⟨hR1, hB1⟩ := hcut
    clear hR HB g0 g3 g4 g5
    rw [<- S.en_append, <- List.length_append] at hR1
    rw [<- List.append_assoc] at HT
    have hle2 : (L ++ (if n.k = 3 then [n.nm] else [])).length + ((nms n.th).length + (nms n.el).length) <= 1048576 := by rw [List.length_append]; omega
    generalize L ++ (if n.k = 3 then [n.nm] else []) = L1 at *
    obtain ⟨qp, cp, hsp⟩ := q_sl hR1
    subst hsp
    obtain ⟨w1, hw1⟩ : ∃ wb, wb = wc := ⟨_, rfl⟩
    rw [<- hw1] at hR1 hB1 ⊢
    clear hw1 hle
    obtain ⟨g0, g3, g4, g5⟩ := HCL.out w1 hB1
    have hc1 := HO.out.2.2.2.1 _ O w1 (fun i hi => Nat.lt_of_lt_of_le (HO.out.1 i hi) hB1.size) (HO.out.2.1.below hB1 HO.out.1) (by omega)
    have H1 := hid (And.intro hR1 hB1)
    have s1 := hB1.size
    clear hR1 hB1
    go_wp2_with fail
    refine hc1.mono ?_
    rintro e w2 ⟨qt, ct, rfl, oT, kT⟩
    clear hc1 g0 g3 g4 g5
    have oR : w2.ownsRow W.heap.size 9 1 (.slice qp L1.length cp) L1.length (S.en eS L1) := S.own_kept H1.out.1 fun g _ hg => kT.block g hg
    have hcs : S.Cs w2 (.slice qt (nms n.th).length ct) 1 (nms n.th).length (S.en eS (nms n.th)) := (S.own_sl hES oT).cs hES (by decide) oneS
    have hsz2 : W.heap.size <= w2.heap.size := Nat.le_trans s1 kT.size
    have HB2 := hid (H1.out.2.trans (kT.mono H1.out.2.size))
    clear kT oT H1
    go_upto_region 8 with (refine S.wpList_append_row w2 rfl _ _ 64 9 _ 1 16 Tryz.underlying64 infoS rfl (by decide) rfl W.heap.size (.slice qp L1.length cp) L1.length (S.en eS L1) rfl oR _ (nms n.th).length _ rfl hcs (by unfold S.room; omega) (by unfold maxLen; omega) hsz2 (fun v5 w3 hr1 hg1 => ?_); obtain ⟨qr, cr, hvr⟩ := q_sl hr1; subst hvr; have HG := hid (And.intro hr1 (HB2.out.trans (hg1.below (fun g hg => q_ge oR g hg) hsz2))); clear hr1 hg1)
    clear oR hcs hsz2 HB2
    obtain ⟨g0, g3, g4, g5⟩ := HCL.out w3 HG.out.2
    have hR3 := HG.out.1
    rw [<- S.en_append, <- List.length_append] at hR3
    have hc2 := HO.out.2.2.2.2 _ O w3 (fun i hi => Nat.lt_of_lt_of_le (HO.out.1 i hi) HG.out.2.size) (HO.out.2.2.1.below HG.out.2 HO.out.1) (by omega)
    have H3 := hid (And.intro hR3 HG.out.2)
    have s3 := HG.out.2.size
    have hle3 : (L1 ++ nms n.th).length + (nms n.el).length <= 1048576 := by rw [List.length_append]; omega
    have HT3 : Y.Hd (nms (l.take (k + 1)) = (L1 ++ nms n.th) ++ nms n.el) := ⟨by rw [HT.out, List.append_assoc]⟩
    have hln : L1.length + (nms n.th).length = (L1 ++ nms n.th).length := by rw [List.length_append]
    rw [hln]
    clear hR3 HG hle2 HT hln
    generalize L1 ++ nms n.th = L2 at *
    go_wp2_with fail
    refine hc2.mono ?_
    rintro e w4 ⟨qe, ce, rfl, oE, kE⟩
    clear hc2 g0 g3 g4 g5
    have oR : w4.ownsRow W.heap.size 9 1 (.slice qr L2.length cr) L2.length (S.en eS L2) := S.own_kept H3.out.1 fun g _ hg => kE.block g hg
    have hcs : S.Cs w4 (.slice qe (nms n.el).length ce) 1 (nms n.el).length (S.en eS (nms n.el)) := (S.own_sl hES oE).cs hES (by decide) oneS
    have hsz2 : W.heap.size <= w4.heap.size := Nat.le_trans s3 kE.size
    have HB2 := hid (H3.out.2.trans (kE.mono H3.out.2.size))
    clear kE oE H3
    go_wp2_with (refine S.wpList_append_row w4 rfl _ _ 64 9 _ 1 16 Tryz.underlying64 infoS rfl (by decide) rfl W.heap.size (.slice qr L2.length cr) L2.length (S.en eS L2) rfl oR _ (nms n.el).length _ rfl hcs (by unfold S.room; omega) (by unfold maxLen; omega) hsz2 (fun v5 w5 hr1 hg1 => ?_); have HG := hid (And.intro hr1 (HB2.out.trans (hg1.below (fun g hg => q_ge oR g hg) hsz2))); clear hr1 hg1)
    refine ⟨⟨k + 1, by omega, by rw [Int.natCast_add]; rfl, ?_, HG.out.2⟩, by simp only [intOf]; omega⟩
    rw [HT3.out, S.en_append, List.length_append]
    exact HG.out.1
  ·have i1 : ¬ (k : Int) < l.length := by omega
   rw [List.take_of_length_le (by omega)] at hR
   have HR := hid (And.intro hR hB)
   rw [List.take_of_length_le (by omega)]
   clear hR hB
   go_wp2
   go_ret
   exact ⟨qo, co, rfl, HR.out.1, HR.out.2⟩
theorem names_r (l : List Nd) : NR l := names_of l fun m _ => Nd.ind (P := fun n => NR n.th /\ NR n.el) (fun n h1 h2 => ⟨names_of n.th h1, names_of n.el h2⟩) m
end Go.Proofs.YtlilefhmohkfkaaGreatDoor.E
